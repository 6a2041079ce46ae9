import PyProof.Rows.All
import Wide.All
import OpenK.AllK
import Wide.FinOn
import HandS.Base
import HandS.Call
import HandS.List
import HandS.Comp
import HandS.Ends
import HandS.Dict
import HandS.Iter
import HandS.Text
import HandS.Words
import HandS.WordsList
import HandS.Wide
import HandS.IsInst
import HandS.Walk
import HandS.Style
import HandS.NoneIn
import HandS.EndBits
import PyProof.ReprRoads
import PyProof.ReprLen
import HandS.Sort
import HandS.Conv
import HandS.Exc
import HandS.ExcInit
import HandS.Nested
import KE.KExcSuper
import KE.KSuper
import HandS.RevRange
import HandS.WideBits
import HandS.More
import HandS.Small
import HandS.ForExc
import HandS.ExcOwn
import HandS.TryOnly
import HandS.FStr
import HandS.WordsExc
import PyProof.FString2
import PyProof.Rows.SeqMore
import PyProof.NeKinds
import HandS.TupAny
import HandS.SortKw
import HandS.SortInts
import PyProof.MinMaxWalk
import PyProof.WalkInts
import HandS.SetFor
import HandS.Strs
import HandS.TupSets
import KE.SortData
import KE.GoesSet
import KE.GoesMore
import HandS.ExcValue
import HandS.TupLe
import HandS.Zip
import KE.DataMinMax
import KE.KDictZip
import HandS.Codes
import HandS.Defaults
import KE.KEqDeep
import PySem.Challenge.RW_bakeahead_k87_whole_doughs_as_plain_ones
set_option Elab.async false
set_option linter.all false
set_option maxRecDepth 100000
set_option maxHeartbeats 4000000
namespace Bk
open PySem PySem.Spec PyProof.Rows L2
/-! ### a def of the text with its promise -/
structure Def (P : Program) (w : World) (K : PySem.W.Frag) (mg : Str → Option Value) (base : Heap) (x : Str) (k : Nat) (ps : List Str) (sp : Sp) : Prop where
  ex : ∃ (f : Addr) (fd : FuncData), mg x = some (.ref f) ∧ PySem.W.keepIn K (.ref f) = true ∧ Binds K fd ps [] ∧ FnOk P w K mg base CX0 k f fd ps sp
theorem pe_callD {X : Cx} {x : Str} {k j : Nat} {ps : List Str} {sp : Sp} {e : Expr} {es : List Expr} {t : TA} {p pos : Pos} (D : Def X.prog X.w X.K X.mg X.base x k ps sp) (hr : Room j X.A) (hg : Gl X x) (ha : PA X (e :: es) t)
    (hkj : k ≤ j := by omega) (hdb : (x == ("__debug__" : Str)) = false := by decide) (he : starEach (e :: es) X.env = (false, eval e X.env) :: starEach es X.env := by rfl) (hpl : (backTo pos (starEach es X.env)).any (·.1) = false := by rfl) :
    PE X (.Call (.Name x p) (e :: es) [] pos) (tCall sp [] E0 t) := by
  obtain ⟨f, fd, hm, hk, hb, F⟩ := D.ex
  exact pe_call F (hr.mono hkj) hg hm hk hb .nil pass0 ha hdb he hpl
theorem same_upd {H : Hp} {p : Addr} {o : HO} (h : H p = none) : Same H (upd H p o) := fun b x e => by
  rw [upd_ne (ne_of_none e h)]
  exact e
/-- what H does not know may change -/
theorem same_mut {H H' : Hp} {p : Addr} {o : HO} (e : Same H H') (h : H p = none) : Same H (upd H' p o) := fun b x q => by
  rw [upd_ne (ne_of_none q h)]
  exact e b x q
theorem _root_.L2.SqL.upd_ {K : PySem.W.Frag} {H : Hp} {a p : Addr} {o : HO} {xs : List V} (h : SqL K H a xs) (hp : H p = none) : SqL K (upd H p o) a xs := (same_upd hp).seq h
theorem Same.tup {K : PySem.W.Frag} {H H' : Hp} {a : Addr} {xs : List V} (e : Same H H') (h : SqT K H a xs) : SqT K H' a xs := by
  rcases h with (h | ⟨o, h⟩) | h
  · exact .inl (.inl (e _ _ h))
  · exact .inl (.inr ⟨o, e _ _ h⟩)
  · exact .inr h
/-- the written part of a def's place -/
theorem cxK {CX : CXT} {P : Program} {w : World} {K : PySem.W.Frag} {mg : Str → Option Value} {base : Heap} {N : List Str} {qual : Str} {scope : Scope} {f : Addr} {cd : Value} {A : Around} {outer : List Env} {s : Shared} {H : Hp} {E : XK} :
    (cxOf CX P w K mg base N qual scope f cd A outer s H E).K = K := rfl
theorem rI_ii {C : Int → Int → Prop} {g : Int → Int → V} {i j : Int} {H : Hp} {Q : VK} : rI C g (.int i) (.int j) H Q = (C i j ∧ Q (g i j) H) := propext ⟨fun ⟨a, b, e1, e2, h⟩ => by cases e1; cases e2; exact h, fun h => ⟨i, j, rfl, rfl, h⟩⟩
theorem rI0_ii {g : Int → Int → V} {i j : Int} {H : Hp} {Q : VK} : rI0 g (.int i) (.int j) H Q = Q (g i j) H := propext ⟨fun ⟨a, b, e1, e2, h⟩ => by cases e1; cases e2; exact h, fun h => ⟨i, j, rfl, rfl, h⟩⟩
theorem rU_i {g : Int → V} {i : Int} {H : Hp} {Q : VK} : rU g (.int i) H Q = Q (g i) H := propext ⟨fun ⟨a, e1, h⟩ => by cases e1; exact h, fun h => ⟨i, rfl, h⟩⟩
theorem rIxL_r {K : PySem.W.Frag} {p : Addr} {i : Int} {H : Hp} {Q : VK} : rIxL K (.ref p) (.int i) H Q = ∃ xs v, SqL K H p xs ∧ atI xs i = some v ∧ Q v H := propext ⟨fun ⟨a, xs, b, v, e1, e2, h⟩ => by cases e1; cases e2; exact ⟨xs, v, h⟩, fun ⟨xs, v, h⟩ => ⟨p, xs, i, v, rfl, rfl, h⟩⟩
theorem rIxT_r {K : PySem.W.Frag} {p : Addr} {i : Int} {H : Hp} {Q : VK} : rIxT K (.ref p) (.int i) H Q = ∃ xs v, SqT K H p xs ∧ atI xs i = some v ∧ Q v H := propext ⟨fun ⟨a, xs, b, v, e1, e2, h⟩ => by cases e1; cases e2; exact ⟨xs, v, h⟩, fun ⟨xs, v, h⟩ => ⟨p, xs, i, v, rfl, rfl, h⟩⟩
theorem rAppend_r {l : Addr} {y : V} {H : Hp} {Q : VK} : rAppend (.ref l) [y] H Q = ∃ xs, H l = some (.lst xs) ∧ xs.length < sizeLine ∧ Q .non (upd H l (.lst (xs ++ [y]))) :=
  propext ⟨fun ⟨a, xs, b, e1, e2, h⟩ => by cases e1; cases e2; exact ⟨xs, h⟩, fun ⟨xs, h⟩ => ⟨l, xs, y, rfl, rfl, h⟩⟩
theorem tyL {K : PySem.W.Frag} {l : Addr} {H : Hp} {xs : List V} (h : SqL K H l xs) : tyV K "list" (.ref l) H := .inl ⟨rfl, xs, h⟩
theorem atI_of {α : Type} {xs : List α} {i : Int} {v : α} (h0 : 0 ≤ i) (h : xs[i.toNat]? = some v) : atI xs i = some v := by
  have e : i = ((i.toNat : Nat) : Int) := by omega
  rw [e]
  exact atI_nat h
theorem atI_map {α : Type} {f : α → V} {xs : List α} {i : Int} {v : α} (h0 : 0 ≤ i) (h : xs[i.toNat]? = some v) : atI (xs.map f) i = some (f v) := atI_of h0 (by rw [List.getElem?_map, h]; rfl)
theorem sz100 {n : Nat} (h : n ≤ 100000) : n ≤ sizeLine := Nat.le_trans h (by decide)
theorem sz100l {n : Nat} (h : n < 100000) : n < sizeLine := Nat.lt_of_lt_of_le h (by decide)
/-! ### calls of built-ins by named readings -/
def rMx : List V → Hp → VK → Prop := fun xs H Q => ∃ i j, xs = [.int i, .int j] ∧ Q (.int (if j > i then j else i)) H
def rMn : List V → Hp → VK → Prop := fun xs H Q => ∃ i j, xs = [.int i, .int j] ∧ Q (.int (if j < i then j else i)) H
theorem call_mx {X : Cx} (hc : X.calm = true) : CallR X (.builtin "max") rMx := call_max2 hc
theorem call_mn {X : Cx} (hc : X.calm = true) : CallR X (.builtin "min") rMn := call_min2 hc
theorem rMx_ii {i j : Int} {H : Hp} {Q : VK} : rMx [.int i, .int j] H Q = Q (.int (if j > i then j else i)) H := propext ⟨fun ⟨a, b, e, h⟩ => by cases e; exact h, fun h => ⟨i, j, rfl, h⟩⟩
theorem rMn_ii {i j : Int} {H : Hp} {Q : VK} : rMn [.int i, .int j] H Q = Q (.int (if j < i then j else i)) H := propext ⟨fun ⟨a, b, e, h⟩ => by cases e; exact h, fun h => ⟨i, j, rfl, h⟩⟩
/-- len of a list, of a tuple -/
def rLnL (K : PySem.W.Frag) : List V → Hp → VK → Prop := fun xs H Q => ∃ p ys, xs = [.ref p] ∧ SqL K H p ys ∧ Q (.int ys.length) H
def rLnT (K : PySem.W.Frag) : List V → Hp → VK → Prop := fun xs H Q => ∃ p ys, xs = [.ref p] ∧ SqT K H p ys ∧ Q (.int ys.length) H
theorem call_lnL {X : Cx} : CallR X (.builtin "len") (rLnL X.K) := fun pins s σ H xs us Q I r ⟨p, ys, e, h, q⟩ => call_len_seq pins s σ H xs us Q I r ⟨p, ys, e, .inl h, q⟩
theorem call_lnT {X : Cx} : CallR X (.builtin "len") (rLnT X.K) := fun pins s σ H xs us Q I r ⟨p, ys, e, h, q⟩ => call_len_seq pins s σ H xs us Q I r ⟨p, ys, e, .inr h, q⟩
theorem rLnL_r {K : PySem.W.Frag} {p : Addr} {H : Hp} {Q : VK} : rLnL K [.ref p] H Q = ∃ ys, SqL K H p ys ∧ Q (.int ys.length) H := propext ⟨fun ⟨a, ys, e, h⟩ => by cases e; exact ⟨ys, h⟩, fun ⟨ys, h⟩ => ⟨p, ys, rfl, h⟩⟩
theorem rLnT_r {K : PySem.W.Frag} {p : Addr} {H : Hp} {Q : VK} : rLnT K [.ref p] H Q = ∃ ys, SqT K H p ys ∧ Q (.int ys.length) H := propext ⟨fun ⟨a, ys, e, h⟩ => by cases e; exact ⟨ys, h⟩, fun ⟨ys, h⟩ => ⟨p, ys, rfl, h⟩⟩
/-! ### any thing, as data -/
mutual
inductive Th (K : PySem.W.Frag) (H : Hp) : V → PyData → Prop
  | non : Th K H .non .none
  | bl (b : Bool) : Th K H (.bl b) (.bool b)
  | int (i : Int) : Th K H (.int i) (.int i)
  | str (x : Str) : Th K H (.str x) (.str x)
  | lst {a : Addr} {xs : List V} {ds : List PyData} : SqL K H a xs → ThAll K H xs ds → Th K H (.ref a) (.list ds)
  | tup {a : Addr} {xs : List V} {ds : List PyData} : SqT K H a xs → ThAll K H xs ds → Th K H (.ref a) (.tuple ds)
  | dic {a : Addr} : H a = some (.dK []) → Th K H (.ref a) (.dict [])
inductive ThAll (K : PySem.W.Frag) (H : Hp) : List V → List PyData → Prop
  | nil : ThAll K H [] []
  | cons {v : V} {vs : List V} {d : PyData} {ds : List PyData} : Th K H v d → ThAll K H vs ds → ThAll K H (v :: vs) (d :: ds)
end

mutual
theorem Th.same {K : PySem.W.Frag} {H H' : Hp} (e : Same H H') : ∀ {v : V} {d : PyData}, Th K H v d → Th K H' v d
  | _, _, .non => .non
  | _, _, .bl b => .bl b
  | _, _, .int i => .int i
  | _, _, .str x => .str x
  | _, _, .lst h t => .lst (e.seq h) (ThAll.same e t)
  | _, _, .tup h t => .tup (Same.tup e h) (ThAll.same e t)
  | _, _, .dic h => .dic (e _ _ h)
theorem ThAll.same {K : PySem.W.Frag} {H H' : Hp} (e : Same H H') : ∀ {vs : List V} {ds : List PyData}, ThAll K H vs ds → ThAll K H' vs ds
  | _, _, .nil => .nil
  | _, _, .cons h t => .cons (Th.same e h) (ThAll.same e t)
end
theorem ThAll.length {K : PySem.W.Frag} {H : Hp} : ∀ {vs : List V} {ds : List PyData}, ThAll K H vs ds → vs.length = ds.length
  | _, _, .nil => rfl
  | _, _, .cons _ t => by rw [List.length_cons, List.length_cons, ThAll.length t]
theorem ThAll.get {K : PySem.W.Frag} {H : Hp} : ∀ {vs : List V} {ds : List PyData} {i : Nat} {v : V}, ThAll K H vs ds → vs[i]? = some v → ∃ d, ds[i]? = some d ∧ Th K H v d
  | _, _, _, _, .nil, e => by simp at e
  | _, _, 0, _, .cons h _, e => by
    rw [List.getElem?_cons_zero] at e
    cases e
    exact ⟨_, List.getElem?_cons_zero .., h⟩
  | _, _, i + 1, _, .cons _ t, e => by
    rw [List.getElem?_cons_succ] at e
    obtain ⟨d, h1, h2⟩ := ThAll.get t e
    exact ⟨d, by rw [List.getElem?_cons_succ]; exact h1, h2⟩
theorem ThAll.get' {K : PySem.W.Frag} {H : Hp} {vs : List V} {ds : List PyData} {i : Nat} {d : PyData} (t : ThAll K H vs ds) (e : ds[i]? = some d) : ∃ v, vs[i]? = some v ∧ Th K H v d := by
  have hi : i < vs.length := by
    rw [t.length]
    exact (List.getElem?_eq_some_iff.mp e).1
  obtain ⟨d', h1, h2⟩ := t.get (List.getElem?_eq_getElem hi)
  have e2 : d' = d := Option.some.inj (h1.symm.trans e)
  subst e2
  exact ⟨_, List.getElem?_eq_getElem hi, h2⟩
theorem ThAll.ints {K : PySem.W.Frag} {H : Hp} : ∀ ns : List Int, ThAll K H (ns.map V.int) (ns.map PyData.int)
  | [] => .nil
  | n :: r => .cons (.int n) (ThAll.ints r)
/-- the built-in classes that are asked for -/
inductive Cl | int | bool | list | tuple | str | dict
def Cl.name : Cl → String
  | .int => "int" | .bool => "bool" | .list => "list" | .tuple => "tuple" | .str => "str" | .dict => "dict"
def kindD : PyData → String
  | .none => "NoneType" | .bool _ => "bool" | .int _ => "int" | .str _ => "str" | .list _ => "list" | .tuple _ => "tuple" | .dict _ => "dict"
def isD : Cl → PyData → Bool
  | .int, .int _ => true
  | .int, .bool _ => true
  | .bool, .bool _ => true
  | .list, .list _ => true
  | .tuple, .tuple _ => true
  | .str, .str _ => true
  | .dict, .dict _ => true
  | _, _ => false
def isN (c : Cl) (n : String) : Bool := n == c.name || (n == "bool" && c.name == "int")
theorem isN_kit : ∀ (c : Cl), ∀ n ∈ ["NoneType", "bool", "int", "str", "list", "tuple", "dict"], kitB n c.name = some (isN c n) := by
  intro c
  cases c <;> decide +kernel
theorem kindD_mem (d : PyData) : kindD d ∈ ["NoneType", "bool", "int", "str", "list", "tuple", "dict"] := by cases d <;> simp [kindD]
theorem isN_tab : ∀ c : Cl, isN c "NoneType" = isD c .none ∧ isN c "bool" = isD c (.bool true) ∧ isN c "int" = isD c (.int 0) ∧ isN c "str" = isD c (.str "") ∧ isN c "list" = isD c (.list []) ∧ isN c "tuple" = isD c (.tuple []) ∧ isN c "dict" = isD c (.dict []) := by
  intro c
  cases c <;> decide +kernel
theorem isD_N (c : Cl) (d : PyData) : isN c (kindD d) = isD c d := by
  obtain ⟨h1, h2, h3, h4, h5, h6, h7⟩ := isN_tab c
  cases d with
  | none => exact h1
  | bool b => exact h2.trans (by cases c <;> rfl)
  | int i => exact h3.trans (by cases c <;> rfl)
  | str x => exact h4.trans (by cases c <;> rfl)
  | list x => exact h5.trans (by cases c <;> rfl)
  | tuple x => exact h6.trans (by cases c <;> rfl)
  | dict x => exact h7.trans (by cases c <;> rfl)
theorem isD_kit {K : PySem.W.Frag} (c : Cl) (d : PyData) : PySem.W.kitOne K (.type (kindD d)) (.type c.name) = some (isD c d) := by
  rw [← isD_N]
  exact kit_ty (isN_kit c _ (kindD_mem d))
theorem Th.ty {K : PySem.W.Frag} {H : Hp} {v : V} {d : PyData} (h : Th K H v d) : TyX K H v (.type (kindD d)) := by
  cases h with
  | non => exact .base .non
  | bl b => exact .base (.bl b)
  | int i => exact .base (.int i)
  | str x => exact .base (.str x)
  | lst h _ =>
    rcases h with (h | ⟨o, h⟩) | ⟨o, its, n, h, c, _⟩
    · exact .base (.lst h)
    · exact .base (.frz h)
    · exact .kList h c
  | tup h _ =>
    rcases h with (h | ⟨o, h⟩) | ⟨o, its, n, h, c, _⟩
    · exact .base (.tup h)
    · exact .fTuple h
    · exact .kTuple h c
  | dic h => exact .base (.dK h)
/-- isinstance(x, a built-in class) of any thing -/
def rIsD (K : PySem.W.Frag) (c : Cl) : List V → Hp → VK → Prop := fun xs H Q => ∃ x d, xs = [x, .ty c.name] ∧ Th K H x d ∧ Q (.bl (isD c d)) H
theorem call_isD {X : Cx} (c : Cl) : CallR X (.builtin "isinstance") (rIsD X.K c) := fun pins s σ H xs us Q I r ⟨x, d, e, h, q⟩ =>
  call_isi pins s σ H xs us Q I r ⟨x, .ty c.name, .type (kindD d), .type c.name, isD c d, e, .ty _, h.ty, isD_kit c d, q⟩
theorem rIsD_int {K : PySem.W.Frag} {x : V} {H : Hp} {Q : VK} : rIsD K .int [x, .ty "int"] H Q = ∃ d, Th K H x d ∧ Q (.bl (isD .int d)) H := propext ⟨fun ⟨y, d, e, h⟩ => by cases e; exact ⟨d, h⟩, fun ⟨d, h⟩ => ⟨x, d, rfl, h⟩⟩
theorem rIsD_bool {K : PySem.W.Frag} {x : V} {H : Hp} {Q : VK} : rIsD K .bool [x, .ty "bool"] H Q = ∃ d, Th K H x d ∧ Q (.bl (isD .bool d)) H := propext ⟨fun ⟨y, d, e, h⟩ => by cases e; exact ⟨d, h⟩, fun ⟨d, h⟩ => ⟨x, d, rfl, h⟩⟩
theorem rIsD_list {K : PySem.W.Frag} {x : V} {H : Hp} {Q : VK} : rIsD K .list [x, .ty "list"] H Q = ∃ d, Th K H x d ∧ Q (.bl (isD .list d)) H := propext ⟨fun ⟨y, d, e, h⟩ => by cases e; exact ⟨d, h⟩, fun ⟨d, h⟩ => ⟨x, d, rfl, h⟩⟩
theorem rIsD_tuple {K : PySem.W.Frag} {x : V} {H : Hp} {Q : VK} : rIsD K .tuple [x, .ty "tuple"] H Q = ∃ d, Th K H x d ∧ Q (.bl (isD .tuple d)) H := propext ⟨fun ⟨y, d, e, h⟩ => by cases e; exact ⟨d, h⟩, fun ⟨d, h⟩ => ⟨x, d, rfl, h⟩⟩
def wholeD : PyData → Bool
  | .int _ => true
  | _ => false
def numD : PyData → Bool
  | .int i => decide (0 ≤ i) && decide (i ≤ 1000000000)
  | _ => false
theorem wholeD_is (d : PyData) : (isD .int d && !isD .bool d) = wholeD d := by cases d <;> rfl
theorem pe_globI {X : Cx} {x : Str} {i : Int} {t : Tok} {pos : Pos} (hg : Gl X x) (hm : X.mg x = some (.int i t)) (hd : (x == ("__debug__" : Str)) = false := by decide) : PE X (.Name x pos) (tC (.int i)) := pe_glob hg hm ⟨_, rfl⟩ hd
theorem gCons_c {t : TG} {u : TGs} {v : V} {r : List V} {σ : L2.St} {H : Hp} {Q : L2.St → Hp → Prop} : gCons t u (v :: r) σ H Q = t v σ H fun σ' H' => u r σ' H' Q := propext ⟨fun ⟨a, b, e, h⟩ => by cases e; exact h, fun h => ⟨v, r, rfl, h⟩⟩
theorem gNil_n {σ : L2.St} {H : Hp} {Q : L2.St → Hp → Prop} : gNil [] σ H Q = Q σ H := propext ⟨fun h => h.2, fun h => ⟨rfl, h⟩⟩
/-! ### loops and comprehensions, kept shut -/
def LoopR (J : It) (g : TG) (tb : TS) (D : Ends) (σ : L2.St) (H : Hp) : Prop := ∃ W : Nat → Nat → L2.St → Hp → Prop, (∃ m, W 0 m σ H) ∧ ∀ i m σ H, W i m σ H →
  (J.stop i H ∧ D.nx σ H) ∨ (J.go i H ∧ ∃ N : L2.St → Hp → Prop, (∀ σ' H', N σ' H' → ∃ m', m' < m ∧ W (i + 1) m' σ' H') ∧ ∀ x H', J.yld i H x H' → g x σ H' fun σ2 H2 => tb { D with nx := N, ct := N, bk := D.nx } σ2 H2)
theorem tFor_eq {wi : TI} {g : TG} {tb : TS} {D : Ends} {σ : L2.St} {H : Hp} : tFor wi g tb D σ H = wi σ H fun J H1 => LoopR J g tb D σ H1 := rfl
theorem LoopR.by {J : It} {n : Nat} {G : Hp → Prop} {Y : Nat → Hp → V → Hp → Prop} (w : Walk J n G Y) {g : TG} {tb : TS} {D : Ends} {σ : L2.St} {H : Hp} (Pv : Nat → L2.St → Hp → Prop) (h0 : Pv 0 σ H) (hG : ∀ i σ H, i ≤ n → Pv i σ H → G H)
    (hs : ∀ i x σ H H', i < n → Pv i σ H → Y i H x H' → g x σ H' fun σ2 H2 => tb { D with nx := Pv (i + 1), ct := Pv (i + 1), bk := D.nx } σ2 H2) (hd : ∀ σ H, Pv n σ H → D.nx σ H) : LoopR J g tb D σ H := for_it w Pv h0 hG hs hd
def LcR (J : It) (g : TG) (tt : TT) (te : TE) (vs : List Nat) (σ : L2.St) (D : Addr) (H1 : Hp) (Qd : Hp → Prop) : Prop := ∃ W : Nat → Nat → Hp → Prop, (∃ m, W 0 m (upd H1 D (.lst []))) ∧ ∀ i m H, W i m H →
  (J.stop i H ∧ Qd H) ∨ (J.go i H ∧ ∃ Nx : Hp → Prop, (∀ H', Nx H' → ∃ m', m' < m ∧ W (i + 1) m' H') ∧ ∀ x H', J.yld i H x H' → g x (wipe σ vs) H' fun σ2 H2 => wipe σ2 vs = wipe σ vs ∧ tt σ2 H2 fun b H3 =>
    if b = true then te σ2 H3 fun y H4 => ∃ acc, H4 D = some (.lst acc) ∧ acc.length < sizeLine ∧ Nx (upd H4 D (.lst (acc ++ [y]))) else Nx H3)
theorem tLc_eq {wi : TI} {g : TG} {tt : TT} {te : TE} {vs : List Nat} {σ : L2.St} {H : Hp} {Q : VK} : tLc wi g tt te vs σ H Q = wi σ H fun J H1 => ∀ D, H1 D = none → LcR J g tt te vs σ D H1 (fun H => Q (.ref D) H) := rfl
theorem LcR.by {J : It} {n : Nat} {G : Hp → Prop} {Y : Nat → Hp → V → Hp → Prop} (w : Walk J n G Y) {g : TG} {tt : TT} {te : TE} {vs : List Nat} {σ : L2.St} {H1 : Hp} {D : Addr} {Qd : Hp → Prop} (Pv : Nat → Hp → Prop) (h0 : Pv 0 (upd H1 D (.lst []))) (hG : ∀ i H, i ≤ n → Pv i H → G H)
    (hs : ∀ i x H H', i < n → Pv i H → Y i H x H' → g x (wipe σ vs) H' fun σ2 H2 => wipe σ2 vs = wipe σ vs ∧ tt σ2 H2 fun b H3 =>
      if b = true then te σ2 H3 fun y H4 => ∃ acc, H4 D = some (.lst acc) ∧ acc.length < sizeLine ∧ Pv (i + 1) (upd H4 D (.lst (acc ++ [y]))) else Pv (i + 1) H3) (hd : ∀ H, Pv n H → Qd H) : LcR J g tt te vs σ D H1 Qd := lc_it w Pv h0 hG hs hd
theorem gTup_r {K : PySem.W.Frag} {n : Nat} {t : TGs} {a : Addr} {σ : L2.St} {H : Hp} {Q : L2.St → Hp → Prop} : gTup K n t (.ref a) σ H Q = ∃ xs, SqT K H a xs ∧ xs.length = n ∧ t xs σ H Q := propext ⟨fun ⟨b, xs, e, h⟩ => by cases e; exact ⟨xs, h⟩, fun ⟨xs, h⟩ => ⟨a, xs, rfl, h⟩⟩
def rEnum (K : PySem.W.Frag) (vs : List V) (H1 : Hp) (R : It → Hp → Prop) : Prop := ∃ a xs, vs = [.ref a] ∧ SqL K H1 a xs ∧ R (Ite K a) H1
theorem iEnum_eq {K : PySem.W.Frag} {ta : TA} {σ : L2.St} {H : Hp} {R : It → Hp → Prop} : iEnum K ta σ H R = ta σ H fun vs H1 => rEnum K vs H1 R := rfl
theorem rEnum_r {K : PySem.W.Frag} {a : Addr} {H : Hp} {R : It → Hp → Prop} : rEnum K [.ref a] H R = ∃ xs, SqL K H a xs ∧ R (Ite K a) H := propext ⟨fun ⟨b, xs, e, h⟩ => by cases e; exact ⟨xs, h⟩, fun ⟨xs, h⟩ => ⟨a, xs, rfl, h⟩⟩
def rZip (K : PySem.W.Frag) (vs : List V) (H1 : Hp) (R : It → Hp → Prop) : Prop := ∃ a b xs ys, vs = [.ref a, .ref b] ∧ SqL K H1 a xs ∧ SqL K H1 b ys ∧ R (Itz K a b) H1
theorem iZip_eq {K : PySem.W.Frag} {ta : TA} {σ : L2.St} {H : Hp} {R : It → Hp → Prop} : iZip K ta σ H R = ta σ H fun vs H1 => rZip K vs H1 R := rfl
theorem rZip_r {K : PySem.W.Frag} {a b : Addr} {H : Hp} {R : It → Hp → Prop} : rZip K [.ref a, .ref b] H R = ∃ xs ys, SqL K H a xs ∧ SqL K H b ys ∧ R (Itz K a b) H := propext ⟨fun ⟨_, _, xs, ys, e, h⟩ => by cases e; exact ⟨xs, ys, h⟩, fun ⟨xs, ys, h⟩ => ⟨a, b, xs, ys, rfl, h⟩⟩
def rRng1 (vs : List V) (H1 : Hp) (R : It → Hp → Prop) : Prop := ∃ j : Int, vs = [.int j] ∧ -(2 ^ 62) ≤ j ∧ j < 2 ^ 62 ∧ R (Itr 0 j.toNat) H1
theorem iRng1_eq {ta : TA} {σ : L2.St} {H : Hp} {R : It → Hp → Prop} : iRng1 ta σ H R = ta σ H fun vs H1 => rRng1 vs H1 R := rfl
theorem rRng1_i {j : Int} {H : Hp} {R : It → Hp → Prop} : rRng1 [.int j] H R = (-(2 ^ 62) ≤ j ∧ j < 2 ^ 62 ∧ R (Itr 0 j.toNat) H) := propext ⟨fun ⟨_, e, h⟩ => by cases e; exact h, fun h => ⟨j, rfl, h⟩⟩
def rRng2 (vs : List V) (H1 : Hp) (R : It → Hp → Prop) : Prop := ∃ i j : Int, vs = [.int i, .int j] ∧ (-(2 ^ 62) ≤ i ∧ i < 2 ^ 62 ∧ -(2 ^ 62) ≤ j ∧ j < 2 ^ 62) ∧ R (Itr i (j - i).toNat) H1
theorem iRng2_eq {ta : TA} {σ : L2.St} {H : Hp} {R : It → Hp → Prop} : iRng2 ta σ H R = ta σ H fun vs H1 => rRng2 vs H1 R := rfl
theorem rRng2_i {i j : Int} {H : Hp} {R : It → Hp → Prop} : rRng2 [.int i, .int j] H R = ((-(2 ^ 62) ≤ i ∧ i < 2 ^ 62 ∧ -(2 ^ 62) ≤ j ∧ j < 2 ^ 62) ∧ R (Itr i (j - i).toNat) H) := propext ⟨fun ⟨_, _, e, h⟩ => by cases e; exact h, fun h => ⟨i, j, rfl, h⟩⟩
theorem rSlL_r {K : PySem.W.Frag} {a : Addr} {lo hi : Option Int} {H : Hp} {Q : VK} : rSlL K (.ref a) lo hi H Q = ∃ xs, SqL K H a xs ∧ ∀ p, H p = none → Q (.ref p) (upd H p (.lst (cutV xs lo hi))) := propext ⟨fun ⟨_, xs, e, h⟩ => by cases e; exact ⟨xs, h⟩, fun ⟨xs, h⟩ => ⟨a, xs, rfl, h⟩⟩
theorem rCat_r {l b : Addr} {H : Hp} {Q : VK} : rCat (.ref l) (.ref b) H Q = ∃ xs zs, H l = some (.lst xs) ∧ H b = some (.lst zs) ∧ xs.length + zs.length ≤ sizeLine ∧ ∀ p, H p = none → Q (.ref p) (upd H p (.lst (xs ++ zs))) := propext ⟨fun ⟨_, _, xs, zs, e1, e2, h⟩ => by cases e1; cases e2; exact ⟨xs, zs, h⟩, fun ⟨xs, zs, h⟩ => ⟨l, b, xs, zs, rfl, rfl, h⟩⟩
end Bk

namespace Bk
open PySem PySem.Spec PyProof.Rows L2
/-! ### a comprehension without tests, by what each turn gives -/
theorem LcR.map {J : It} {n : Nat} {G : Hp → Prop} {Y : Nat → Hp → V → Hp → Prop} (w : Walk J n G Y) {g : TG} {te : TE} {vs : List Nat} {σ : L2.St} {H1 : Hp} {D : Addr} {Qd : Hp → Prop} (ys : List V) (hD : H1 D = none) (hn : ys.length = n) (hz : n ≤ 100000)
    (hG : ∀ H, Same H1 H → G H) (hY : ∀ i H x H', Y i H x H' → Same H H')
    (hs : ∀ i x y H H', i < n → Same H1 H' → Y i H x H' → ys[i]? = some y → ∀ R : V → Hp → Prop, (∀ H4, Same H' H4 → R y H4) → g x (wipe σ vs) H' fun σ2 H2 => wipe σ2 vs = wipe σ vs ∧ te σ2 H2 R)
    (hd : ∀ H, Same H1 H → H D = some (.lst ys) → Qd H) : LcR J g tYes te vs σ D H1 Qd := by
  refine LcR.by w (fun i H => Same H1 H ∧ H D = some (.lst (ys.take i))) ⟨same_upd hD, by rw [upd_same]; rfl⟩ (fun i H _ h => hG H h.1) (fun i x H H' hi h y => ?_) (fun H h => hd H h.1 ?_)
  · have s := hY _ _ _ _ y
    have e : ys[i]? = some (ys[i]'(by omega)) := List.getElem?_eq_getElem (by omega)
    refine hs i x _ H H' hi (h.1.trans s) y e _ fun H4 s4 => ?_
    have e4 := s4 _ _ (s _ _ h.2)
    refine ⟨_, e4, ?_, same_mut ((h.1.trans s).trans s4) hD, ?_⟩
    · rw [List.length_take]
      exact sz100l (by omega)
    · rw [upd_same, List.take_add_one, e]
      rfl
  · rw [← hn, List.take_length] at h
    exact h.2
theorem yat_same {xs : List V} {i : Nat} {H H' : Hp} {x : V} (y : YAt xs i H x H') : Same H H' := by
  rw [y.1]
  exact Same.refl H
theorem yfn_same {f : Nat → V} {i : Nat} {H H' : Hp} {x : V} (y : YFn f i H x H') : Same H H' := by
  rw [y.1]
  exact Same.refl H
theorem ypair_same {xs ys : Nat → Option V} {i : Nat} {H H' : Hp} {x : V} (y : YPair xs ys i H x H') : Same H H' := by
  obtain ⟨T, a, b, _, hT, e, _⟩ := y
  rw [e]
  exact same_upd hT
theorem rAll_r {K : PySem.W.Frag} {p : Addr} {H : Hp} {Q : VK} : rAll K [.ref p] H Q = ∃ bs : List Bool, SqL K H p (bs.map V.bl) ∧ Q (.bl (bs.all id)) H := propext ⟨fun ⟨a, bs, e, h⟩ => by cases e; exact ⟨bs, h⟩, fun ⟨bs, h⟩ => ⟨p, bs, rfl, h⟩⟩
theorem rSum_r {K : PySem.W.Frag} {p : Addr} {H : Hp} {Q : VK} : rSum K [.ref p] H Q = ∃ ns : List Int, SqL K H p (ns.map V.int) ∧ Q (.int ns.sum) H := propext ⟨fun ⟨a, bs, e, h⟩ => by cases e; exact ⟨bs, h⟩, fun ⟨bs, h⟩ => ⟨p, bs, rfl, h⟩⟩
/-! ### what a bakery is, as data -/
structure Day where
  want : Int
  loaf : Int
  keep : Int
  fine : Option Int
structure Good where
  days : List Day
  life : Option Int
structure Bak where
  lights : List Int
  bound : Option Int
  goods : List Good
def optD : Option Int → PyData
  | none => .none
  | some i => .int i
def dayD (d : Day) : PyData := .tuple [.int d.want, .int d.loaf, .int d.keep, optD d.fine]
def goodD (g : Good) : PyData := .tuple [.list (g.days.map dayD), optD g.life]
def bakD (b : Bak) : PyData := .tuple [.list (b.lights.map PyData.int), optD b.bound, .list (b.goods.map goodD)]
def tupB (n : Nat) : PyData → Bool
  | .tuple ds => decide (ds.length = n)
  | _ => false
def listB (lo hi : Nat) : PyData → Bool
  | .list ds => decide (lo ≤ ds.length) && decide (ds.length ≤ hi)
  | _ => false
def lightsB : PyData → Bool
  | .list ds => listB 1 40 (.list ds) && ds.all numD
  | _ => false
def boundB : PyData → Bool
  | .none => true
  | .int i => numD (.int i) && decide (1 ≤ i)
  | _ => false
def lifeB : PyData → Bool
  | .none => true
  | .int i => decide (0 ≤ i) && decide (i ≤ 40)
  | _ => false
def noneB : PyData → Bool
  | .none => true
  | _ => false
def dayB : PyData → Bool
  | .tuple [a, b, c, f] => (numD a && numD b && numD c) && (noneB f || numD f)
  | _ => false
def goodFormB (n : Nat) : PyData → Bool
  | .tuple [ds, l] => listB n n ds && lifeB l
  | _ => false
def bakFormB : PyData → Bool
  | .tuple [l, b, g] => lightsB l && (boundB b && listB 1 2 g)
  | _ => false
/-- a good of n days -/
def goodB (n : Nat) : PyData → Bool
  | .tuple [.list ds, l] => decide (ds.length = n) && lifeB l && ds.all dayB
  | _ => false
def bakB : PyData → Bool
  | .tuple [.list ls, b, .list gs] => lightsB (.list ls) && boundB b && listB 1 2 (.list gs) && gs.all (goodB ls.length)
  | _ => false
theorem Th.isNon {K : PySem.W.Frag} {H : Hp} {x : V} {d : PyData} (h : Th K H x d) : decide (x = V.non) = noneB d := by cases h <;> rfl
theorem qb {Q : VK} {H : Hp} {a b : Bool} (e : a = b) (q : Q (.bl b) H) : Q (.bl a) H := by
  rw [e]
  exact q
theorem two {α : Type} {l : List α} (h : l.length = 2) : ∃ a b, l = [a, b] := by
  match l, h with
  | [a, b], _ => exact ⟨a, b, rfl⟩
theorem three {α : Type} {l : List α} (h : l.length = 3) : ∃ a b c, l = [a, b, c] := by
  match l, h with
  | [a, b, c], _ => exact ⟨a, b, c, rfl⟩
theorem four {α : Type} {l : List α} (h : l.length = 4) : ∃ a b c d, l = [a, b, c, d] := by
  match l, h with
  | [a, b, c, d], _ => exact ⟨a, b, c, d, rfl⟩
theorem goodB_inv {n : Nat} {d : PyData} (h : goodB n d = true) : ∃ ds l, d = .tuple [.list ds, l] ∧ ds.length = n ∧ lifeB l = true ∧ ds.all dayB = true := by
  unfold goodB at h
  split at h
  · rename_i ds l
    rw [Bool.and_eq_true, Bool.and_eq_true] at h
    exact ⟨ds, l, rfl, of_decide_eq_true h.1.1, h.1.2, h.2⟩
  · cases h
theorem bakB_inv {d : PyData} (h : bakB d = true) : ∃ ls b gs, d = .tuple [.list ls, b, .list gs] ∧ lightsB (.list ls) = true ∧ boundB b = true ∧ listB 1 2 (.list gs) = true ∧ gs.all (goodB ls.length) = true := by
  unfold bakB at h
  split at h
  · rename_i ls b gs
    rw [Bool.and_eq_true, Bool.and_eq_true, Bool.and_eq_true] at h
    exact ⟨ls, b, gs, rfl, h.1.1.1, h.1.1.2, h.1.2, h.2⟩
  · cases h
/-- a bakery, part by part -/
theorem Th.bak {K : PySem.W.Frag} {H : Hp} {x : V} {b : Bak} (h : Th K H x (bakD b)) : ∃ (a l : Addr) (v : V) (g : Addr) (xl xg : List V), x = .ref a ∧ SqT K H a [.ref l, v, .ref g] ∧ SqL K H l xl ∧ ThAll K H xl (b.lights.map PyData.int) ∧ Th K H v (optD b.bound) ∧ SqL K H g xg ∧ ThAll K H xg (b.goods.map goodD) := by
  cases h with
  | tup ht hta =>
  cases hta with
  | cons t1 hta => cases hta with
  | cons t2 hta => cases hta with
  | cons t3 hta =>
  cases hta
  cases t1 with
  | lst h1 h2 =>
  cases t3 with
  | lst h3 h4 =>
  exact ⟨_, _, _, _, _, _, rfl, ht, h1, h2, t2, h3, h4⟩
def optV : Option Int → V
  | none => .non
  | some i => .int i
theorem Th.opt {K : PySem.W.Frag} {H : Hp} {v : V} {o : Option Int} (h : Th K H v (optD o)) : v = optV o := by
  cases o with
  | none =>
    cases h
    rfl
  | some i =>
    cases h
    rfl
theorem Th.optV {K : PySem.W.Frag} {H : Hp} (o : Option Int) : Th K H (Bk.optV o) (optD o) := by
  cases o with
  | none => exact .non
  | some i => exact .int i
theorem Th.day {K : PySem.W.Frag} {H : Hp} {x : V} {d : Day} (h : Th K H x (dayD d)) : ∃ t, x = .ref t ∧ SqT K H t [.int d.want, .int d.loaf, .int d.keep, Bk.optV d.fine] := by
  cases h with
  | tup ht hta =>
  cases hta with
  | cons t1 hta => cases hta with
  | cons t2 hta => cases hta with
  | cons t3 hta => cases hta with
  | cons t4 hta =>
  cases hta
  cases t1
  cases t2
  cases t3
  rw [t4.opt] at ht
  exact ⟨_, rfl, ht⟩
theorem Th.good {K : PySem.W.Frag} {H : Hp} {x : V} {g : Good} (h : Th K H x (goodD g)) : ∃ t a xs, x = .ref t ∧ SqT K H t [.ref a, Bk.optV g.life] ∧ SqL K H a xs ∧ ThAll K H xs (g.days.map dayD) := by
  cases h with
  | tup ht hta =>
  cases hta with
  | cons t1 hta => cases hta with
  | cons t2 hta =>
  cases hta
  cases t1 with
  | lst h1 h2 =>
  rw [t2.opt] at ht
  exact ⟨_, _, _, rfl, ht, h1, h2⟩
theorem ThAll.drop {K : PySem.W.Frag} {H : Hp} : ∀ {vs : List V} {ds : List PyData} (n : Nat), ThAll K H vs ds → ThAll K H (vs.drop n) (ds.drop n)
  | _, _, 0, h => h
  | _, _, _ + 1, .nil => .nil
  | _, _, n + 1, .cons _ t => ThAll.drop n t
theorem ThAll.take {K : PySem.W.Frag} {H : Hp} : ∀ {vs : List V} {ds : List PyData} (n : Nat), ThAll K H vs ds → ThAll K H (vs.take n) (ds.take n)
  | _, _, 0, _ => .nil
  | _, _, _ + 1, .nil => .nil
  | _, _, n + 1, .cons h t => .cons h (ThAll.take n t)
theorem ThAll.append {K : PySem.W.Frag} {H : Hp} : ∀ {vs ws : List V} {ds es : List PyData}, ThAll K H vs ds → ThAll K H ws es → ThAll K H (vs ++ ws) (ds ++ es)
  | _, _, _, _, .nil, h => h
  | _, _, _, _, .cons h t, h2 => .cons h (ThAll.append t h2)
theorem cutV_nat (xs : List V) (i j : Nat) : cutV xs (some (i : Int)) (some (j : Int)) = (xs.drop i).take (j - i) := by
  unfold cutV
  rw [HT.sIx_nat, HT.sIx_nat]
  by_cases hi : i ≤ xs.length
  · rw [Nat.min_eq_left hi]
    by_cases hj : j ≤ xs.length
    · rw [Nat.min_eq_left hj]
    · rw [Nat.min_eq_right (by omega), List.take_of_length_le (by rw [List.length_drop]; omega), List.take_of_length_le (by rw [List.length_drop]; omega)]
  · rw [show min i xs.length = xs.length by omega, List.drop_of_length_le (Nat.le_refl _), List.drop_of_length_le (show xs.length ≤ i by omega), List.take_nil, List.take_nil]
/-! ### the price of a loaf -/
def sumO : List (Option Int) → Option Int
  | [] => some 0
  | none :: _ => none
  | some x :: r => (sumO r).map (x + ·)
def keepsL (ds : List Day) (i j : Nat) : Int := (((ds.drop i).take (j - i)).map Day.keep).sum
def finesL (ds : List Day) (i j : Nat) : Option Int := sumO (((ds.drop i).take (j - i)).map Day.fine)
/-- a loaf of a good, baked on day j, given for day k -/
def loafP (g : Good) (j k : Nat) : Option Int := match g.days[j]? with
  | none => none
  | some d => if k < j then (finesL g.days k j).map (d.loaf + ·) else match g.life with
    | none => some (d.loaf + keepsL g.days j k)
    | some l => if l < (k : Int) - (j : Int) then none else some (d.loaf + keepsL g.days j k)
theorem sumO_none : ∀ {l : List (Option Int)}, inV .non (l.map optV) = true → sumO l = none
  | [], h => by cases h
  | none :: _, _ => rfl
  | some x :: r, h => by
    have h2 : inV .non (r.map optV) = true := by
      have h1 : (eqV (.int x) .non || inV .non (r.map optV)) = true := h
      simpa [eqV] using h1
    show (sumO r).map (x + ·) = none
    rw [sumO_none h2]
    rfl
theorem sumO_some : ∀ {l : List (Option Int)}, inV .non (l.map optV) = false → ∃ ns : List Int, l.map optV = ns.map V.int ∧ sumO l = some ns.sum
  | [], _ => ⟨[], rfl, rfl⟩
  | none :: r, h => by
    have h1 : (eqV .non .non || inV .non (r.map optV)) = false := h
    simp [eqV] at h1
  | some x :: r, h => by
    have h2 : inV .non (r.map optV) = false := by
      have h1 : (eqV (.int x) .non || inV .non (r.map optV)) = false := h
      simpa [eqV] using h1
    obtain ⟨ns, e1, e2⟩ := sumO_some h2
    refine ⟨x :: ns, ?_, ?_⟩
    · show V.int x :: r.map optV = V.int x :: ns.map V.int
      rw [e1]
    · show (sumO r).map (x + ·) = some (x :: ns).sum
      rw [e2, List.sum_cons]
      rfl
theorem rIn_r {K : PySem.W.Frag} {x : V} {p : Addr} {H : Hp} {Q : VK} : rIn K false x (.ref p) H Q = ∃ xs, (SqL K H p xs ∨ SqT K H p xs) ∧ flatV x = true ∧ xs.all flatV = true ∧ Q (.bl (inV x xs)) H :=
  propext ⟨fun ⟨_, xs, e, h⟩ => by cases e; exact ⟨xs, h⟩, fun ⟨xs, h⟩ => ⟨p, xs, rfl, h⟩⟩
theorem flat_opts (l : List (Option Int)) : (l.map optV).all flatV = true := by
  rw [List.all_eq_true]
  intro x hx
  obtain ⟨o, _, rfl⟩ := List.mem_map.mp hx
  cases o <;> rfl
end Bk

namespace Bk
open PySem PySem.Spec PyProof.Rows L2
/-! ### xs[a:b:c] of a list: some of its items -/
/-- the items of xs[l:u:st] -/
def stepV (xs : List V) (l u st : Option Int) : List V := (sliceRange (sliceBounds l u st xs.length).1 (sliceBounds l u st xs.length).2.1 (sliceBounds l u st xs.length).2.2).filterMap (xs[·]?)
def tStep (K : PySem.W.Frag) (te : TE) (tl th ts : TO) : TE := fun σ H Q => te σ H fun x H1 => tl σ H1 fun l H2 => th σ H2 fun u H3 => ts σ H3 fun st H4 => ∃ a xs, x = .ref a ∧ SqL K H4 a xs ∧ st ≠ some 0 ∧
  ∀ p, H4 p = none → Q (.ref p) (upd H4 p (.lst (stepV xs l u st)))
theorem tStep_r {K : PySem.W.Frag} {te : TE} {tl th ts : TO} {σ : L2.St} {H : Hp} {Q : VK} : tStep K te tl th ts σ H Q = te σ H fun x H1 => tl σ H1 fun l H2 => th σ H2 fun u H3 => ts σ H3 fun st H4 => ∃ a xs, x = .ref a ∧ SqL K H4 a xs ∧ st ≠ some 0 ∧
  ∀ p, H4 p = none → Q (.ref p) (upd H4 p (.lst (stepV xs l u st))) := rfl
/-! ### data in objects that are tracked as they are -/
mutual
inductive Tk (H : Hp) : V → PyData → Prop
  | non : Tk H .non .none
  | bl (b : Bool) : Tk H (.bl b) (.bool b)
  | int (i : Int) : Tk H (.int i) (.int i)
  | str (x : Str) : Tk H (.str x) (.str x)
  | lst {a : Addr} {xs : List V} {ds : List PyData} : H a = some (.lst xs) → TkAll H xs ds → Tk H (.ref a) (.list ds)
  | tup {a : Addr} {xs : List V} {ds : List PyData} : H a = some (.tup xs) → TkAll H xs ds → Tk H (.ref a) (.tuple ds)
  | dic {a : Addr} : H a = some (.dK []) → Tk H (.ref a) (.dict [])
inductive TkAll (H : Hp) : List V → List PyData → Prop
  | nil : TkAll H [] []
  | cons {v : V} {vs : List V} {d : PyData} {ds : List PyData} : Tk H v d → TkAll H vs ds → TkAll H (v :: vs) (d :: ds)
end

mutual
theorem Tk.th {K : PySem.W.Frag} {H : Hp} : ∀ {v : V} {d : PyData}, Tk H v d → Th K H v d
  | _, _, .non => .non
  | _, _, .bl b => .bl b
  | _, _, .int i => .int i
  | _, _, .str x => .str x
  | _, _, .lst h t => .lst (SqL.of h) (TkAll.th t)
  | _, _, .tup h t => .tup (SqT.of h) (TkAll.th t)
  | _, _, .dic h => .dic h
theorem TkAll.th {K : PySem.W.Frag} {H : Hp} : ∀ {vs : List V} {ds : List PyData}, TkAll H vs ds → ThAll K H vs ds
  | _, _, .nil => .nil
  | _, _, .cons h t => .cons (Tk.th h) (TkAll.th t)
end

mutual
theorem Tk.same {H H' : Hp} (e : Same H H') : ∀ {v : V} {d : PyData}, Tk H v d → Tk H' v d
  | _, _, .non => .non
  | _, _, .bl b => .bl b
  | _, _, .int i => .int i
  | _, _, .str x => .str x
  | _, _, .lst h t => .lst (e _ _ h) (TkAll.same e t)
  | _, _, .tup h t => .tup (e _ _ h) (TkAll.same e t)
  | _, _, .dic h => .dic (e _ _ h)
theorem TkAll.same {H H' : Hp} (e : Same H H') : ∀ {vs : List V} {ds : List PyData}, TkAll H vs ds → TkAll H' vs ds
  | _, _, .nil => .nil
  | _, _, .cons h t => .cons (Tk.same e h) (TkAll.same e t)
end
theorem TkAll.append {H : Hp} : ∀ {vs ws : List V} {ds es : List PyData}, TkAll H vs ds → TkAll H ws es → TkAll H (vs ++ ws) (ds ++ es)
  | _, _, _, _, .nil, h => h
  | _, _, _, _, .cons h t, h2 => .cons h (TkAll.append t h2)
theorem TkAll.take {H : Hp} : ∀ {vs : List V} {ds : List PyData} (n : Nat), TkAll H vs ds → TkAll H (vs.take n) (ds.take n)
  | _, _, 0, _ => .nil
  | _, _, _ + 1, .nil => .nil
  | _, _, n + 1, .cons h t => .cons h (TkAll.take n t)
theorem TkAll.length {H : Hp} : ∀ {vs : List V} {ds : List PyData}, TkAll H vs ds → vs.length = ds.length
  | _, _, .nil => rfl
  | _, _, .cons _ t => by rw [List.length_cons, List.length_cons, TkAll.length t]
theorem TkAll.get {H : Hp} : ∀ {vs : List V} {ds : List PyData} {i : Nat} {v : V}, TkAll H vs ds → vs[i]? = some v → ∃ d, ds[i]? = some d ∧ Tk H v d
  | _, _, _, _, .nil, e => by simp at e
  | _, _, 0, _, .cons h _, e => by
    rw [List.getElem?_cons_zero] at e
    cases e
    exact ⟨_, List.getElem?_cons_zero .., h⟩
  | _, _, i + 1, _, .cons _ t, e => by
    rw [List.getElem?_cons_succ] at e
    obtain ⟨d, h1, h2⟩ := TkAll.get t e
    exact ⟨d, by rw [List.getElem?_cons_succ]; exact h1, h2⟩
theorem TkAll.ints {H : Hp} : ∀ ns : List Int, TkAll H (ns.map V.int) (ns.map PyData.int)
  | [] => .nil
  | n :: r => .cons (.int n) (TkAll.ints r)
theorem Tk.optV {H : Hp} (o : Option Int) : Tk H (Bk.optV o) (optD o) := by
  cases o with
  | none => exact .non
  | some i => exact .int i
/-! ### what is new -/
/-- the part of H' that H doesn't know -/
def newOf (H H' : Hp) : Hp := fun b => if H b = none then H' b else none
theorem newOf_same (H H' : Hp) : Same (newOf H H') H' := fun b o e => by
  unfold newOf at e
  split at e
  · exact e
  · cases e
theorem newOf_at {H H' : Hp} {b : Addr} {o : HO} (h : H b = none) (e : H' b = some o) : newOf H H' b = some o := by
  unfold newOf
  rw [if_pos h]
  exact e
theorem newOf_mono {H H1 H2 : Hp} (s : Same H1 H2) : Same (newOf H H1) (newOf H H2) := fun b o e => by
  unfold newOf at e ⊢
  split at e
  · rename_i h
    rw [if_pos h]
    exact s b o e
  · cases e
/-- the new part, without two places -/
def newBut (H : Hp) (l m : Addr) (H' : Hp) : Hp := fun b => if b = l ∨ b = m then none else newOf H H' b
theorem newBut_mono {H H1 H2 : Hp} {l m : Addr} (s : ∀ b o, b ≠ l → b ≠ m → H1 b = some o → H2 b = some o) : Same (newBut H l m H1) (newBut H l m H2) := fun b o e => by
  unfold newBut at e ⊢
  split at e
  · cases e
  · rename_i h
    rw [if_neg h]
    have h2 := newOf_same _ _ b o e
    unfold newOf at e ⊢
    split at e
    · rename_i h3
      rw [if_pos h3]
      exact s b o (fun z => h (.inl z)) (fun z => h (.inr z)) h2
    · cases e
theorem newBut_same (H : Hp) (l m : Addr) (H' : Hp) : Same (newBut H l m H') (newOf H H') := fun b o e => by
  unfold newBut at e
  split at e
  · cases e
  · exact e
theorem newBut_at {H H' : Hp} {l m b : Addr} {o : HO} (h : H b = none) (h1 : b ≠ l) (h2 : b ≠ m) (e : H' b = some o) : newBut H l m H' b = some o := by
  unfold newBut
  rw [if_neg (fun z => z.elim h1 h2)]
  exact newOf_at h e
theorem gUnl_r {K : PySem.W.Frag} {n : Nat} {t : TGs} {a : Addr} {σ : L2.St} {H : Hp} {Q : L2.St → Hp → Prop} : gUnl K n t (.ref a) σ H Q = ∃ xs, SqL K H a xs ∧ xs.length = n ∧ t xs σ H Q := propext ⟨fun ⟨b, xs, e, h⟩ => by cases e; exact ⟨xs, h⟩, fun ⟨xs, h⟩ => ⟨a, xs, rfl, h⟩⟩
def rInt1 : List V → Hp → VK → Prop := fun xs H Q => (∃ i, xs = [.int i] ∧ Q (.int i) H) ∨ ∃ k, xs = [.bl k] ∧ Q (.int (if k then 1 else 0)) H
theorem call_in1 {X : Cx} : CallR X (.type "int") rInt1 := call_int1
theorem rInt1_b {k : Bool} {H : Hp} {Q : VK} : rInt1 [.bl k] H Q = Q (.int (if k then 1 else 0)) H := by
  refine propext ⟨fun h => ?_, fun h => .inr ⟨k, rfl, h⟩⟩
  rcases h with ⟨i, e, _⟩ | ⟨j, e, q⟩
  · cases e
  · cases e
    exact q
theorem rInt1_i {i : Int} {H : Hp} {Q : VK} : rInt1 [.int i] H Q = Q (.int i) H := by
  refine propext ⟨fun h => ?_, fun h => .inl ⟨i, rfl, h⟩⟩
  rcases h with ⟨j, e, q⟩ | ⟨j, e, _⟩
  · cases e
    exact q
  · cases e
theorem rRep_r {l : Addr} {k : Int} {H : Hp} {Q : VK} : rRep (.ref l) (.int k) H Q = ∃ xs, H l = some (.lst xs) ∧ -(2 ^ 63) ≤ k ∧ k < 2 ^ 63 ∧ xs.length * k.toNat ≤ sizeLine ∧ ∀ p, H p = none → Q (.ref p) (upd H p (.lst (List.replicate k.toNat xs).flatten)) :=
  propext ⟨fun ⟨_, _, xs, e1, e2, h⟩ => by cases e1; cases e2; exact ⟨xs, h⟩, fun ⟨xs, h⟩ => ⟨l, k, xs, rfl, rfl, h⟩⟩
theorem seven {α : Type} {l : List α} (h : l.length = 7) : ∃ a b c d e f g, l = [a, b, c, d, e, f, g] := by
  match l, h with
  | [a, b, c, d, e, f, g], _ => exact ⟨a, b, c, d, e, f, g, rfl⟩
def nDays (u m : Nat) : Nat := max 2 (min u m) - 1
theorem bakB_mk {b : Bak} (h1 : 1 ≤ b.lights.length) (h2 : b.lights.length ≤ 40) (h3 : ∀ z ∈ b.lights, numD (.int z) = true) (h4 : boundB (optD b.bound) = true) (h5 : 1 ≤ b.goods.length) (h6 : b.goods.length ≤ 2)
    (h7 : ∀ g ∈ b.goods, g.days.length = b.lights.length ∧ lifeB (optD g.life) = true ∧ ∀ d ∈ g.days, dayB (dayD d) = true) : bakB (bakD b) = true := by
  have e1 : (b.lights.map PyData.int).all numD = true := by
    rw [List.all_eq_true]
    intro x hx
    obtain ⟨z, hz, rfl⟩ := List.mem_map.mp hx
    exact h3 z hz
  have e2 : (b.goods.map goodD).all (goodB (b.lights.map PyData.int).length) = true := by
    rw [List.all_eq_true]
    intro x hx
    obtain ⟨g, hg, rfl⟩ := List.mem_map.mp hx
    obtain ⟨g1, g2, g3⟩ := h7 g hg
    have e3 : (g.days.map dayD).all dayB = true := by
      rw [List.all_eq_true]
      intro y hy
      obtain ⟨d, hd, rfl⟩ := List.mem_map.mp hy
      exact g3 d hd
    simp only [goodD, goodB, e3, g2, List.length_map, g1, decide_true, Bool.and_self]
  rw [List.length_map] at e2
  simp only [bakD, bakB, lightsB, listB, e1, e2, h4, List.length_map, h1, h2, h5, h6, decide_true, Bool.and_self]
theorem Tk.opt {H : Hp} {v : V} {o : Option Int} (h : Tk H v (optD o)) : v = Bk.optV o := (h.th (K := [])).opt
/-- a bakery in tracked objects, part by part -/
theorem Tk.bak {H : Hp} {x : V} {b : Bak} (h : Tk H x (bakD b)) : ∃ (a l g : Addr) (xl xg : List V), x = .ref a ∧ H a = some (.tup [.ref l, Bk.optV b.bound, .ref g]) ∧ H l = some (.lst xl) ∧ TkAll H xl (b.lights.map PyData.int) ∧ H g = some (.lst xg) ∧ TkAll H xg (b.goods.map goodD) := by
  cases h with
  | tup ht hta =>
  cases hta with
  | cons t1 hta => cases hta with
  | cons t2 hta => cases hta with
  | cons t3 hta =>
  cases hta
  cases t1 with
  | lst h1 h2 =>
  cases t3 with
  | lst h3 h4 =>
  rw [t2.opt] at ht
  exact ⟨_, _, _, _, _, rfl, ht, h1, h2, h3, h4⟩
theorem Tk.good {H : Hp} {x : V} {g : Good} (h : Tk H x (goodD g)) : ∃ t a xs, x = .ref t ∧ H t = some (.tup [.ref a, Bk.optV g.life]) ∧ H a = some (.lst xs) ∧ TkAll H xs (g.days.map dayD) := by
  cases h with
  | tup ht hta =>
  cases hta with
  | cons t1 hta => cases hta with
  | cons t2 hta =>
  cases hta
  cases t1 with
  | lst h1 h2 =>
  rw [t2.opt] at ht
  exact ⟨_, _, _, rfl, ht, h1, h2⟩
/-! ### a comprehension whose items are new things -/
theorem LcR.build {J : It} {n : Nat} {G : Hp → Prop} {Y : Nat → Hp → V → Hp → Prop} (w : Walk J n G Y) {g : TG} {te : TE} {vs : List Nat} {σ : L2.St} {H H1 : Hp} {D : Addr} {Qd : Hp → Prop} (es : List PyData) (hD : H1 D = none) (hn : es.length = n) (hz : n ≤ 100000)
    (hG : ∀ H, Same H1 H → G H) (hY : ∀ i H x H', Y i H x H' → Same H H')
    (hs : ∀ i x e H0 H', i < n → Same H1 H' → (∃ acc, H' D = some (.lst acc)) → Y i H0 x H' → es[i]? = some e → ∀ R : V → Hp → Prop, (∀ v H4, Same H' H4 → Tk (newBut H D D H4) v e → R v H4) → g x (wipe σ vs) H' fun σ2 H2 => wipe σ2 vs = wipe σ vs ∧ te σ2 H2 R)
    (hd : ∀ H' acc, Same H1 H' → H' D = some (.lst acc) → TkAll (newBut H D D H') acc es → Qd H') : LcR J g tYes te vs σ D H1 Qd := by
  refine LcR.by w (fun i H' => Same H1 H' ∧ ∃ acc, H' D = some (.lst acc) ∧ TkAll (newBut H D D H') acc (es.take i)) ⟨same_upd hD, [], upd_same, .nil⟩ (fun i H _ h => hG H h.1) (fun i x H0 H' hi h y => ?_) (fun H' h => ?_)
  · obtain ⟨s0, acc, ea, ta⟩ := h
    have s := hY _ _ _ _ y
    have e : es[i]? = some (es[i]'(by omega)) := List.getElem?_eq_getElem (by omega)
    refine hs i x _ H0 H' hi (s0.trans s) ⟨acc, s _ _ ea⟩ y e _ fun v H4 s4 tv => ?_
    have e4 := s4 _ _ (s _ _ ea)
    refine ⟨_, e4, ?_, same_mut ((s0.trans s).trans s4) hD, _, upd_same, ?_⟩
    · rw [ta.length, List.length_take]
      exact sz100l (by omega)
    · rw [List.take_add_one, e]
      refine (ta.same (newBut_mono fun b o h1 _ q => ?_)).append (.cons (tv.same (newBut_mono fun b o h1 _ q => ?_)) .nil)
      · rw [upd_ne h1]
        exact s4 _ _ (s _ _ q)
      · rw [upd_ne h1]
        exact q
  · obtain ⟨s0, acc, ea, ta⟩ := h
    rw [← hn, List.take_length] at ta
    exact hd H' acc s0 ea ta
/-! ### while, by the number of its turns -/
def WI (n : Nat) (Pv : Nat → L2.St → Hp → Prop) (m : Nat) (σ : L2.St) (H : Hp) : Prop := ∃ i, m = n - i ∧ i ≤ n ∧ Pv i σ H
def WStep (n : Nat) (Pv : Nat → L2.St → Hp → Prop) (i : Nat) (tb : TS) (D : Ends) (σ : L2.St) (H1 : Hp) : Prop := ∃ N : L2.St → Hp → Prop, (∀ σ' H', N σ' H' → ∃ m', m' < n - i ∧ WI n Pv m' σ' H') ∧ tb { D with nx := N, ct := N, bk := D.nx } σ H1
theorem while_by {c : TT} {tb : TS} {D : Ends} {σ : L2.St} {H : Hp} (n : Nat) (Pv : Nat → L2.St → Hp → Prop) (h0 : Pv 0 σ H) (hs : ∀ i σ H, i ≤ n → Pv i σ H → c σ H fun b H1 => if b = true then WStep n Pv i tb D σ H1 else D.nx σ H1) : tWhile c tb D σ H :=
  ⟨WI n Pv, ⟨n, 0, rfl, Nat.zero_le _, h0⟩, fun m σ H ⟨i, e, hi, p⟩ => by subst e; exact hs i σ H hi p⟩
theorem wstep {n i : Nat} {Pv : Nat → L2.St → Hp → Prop} {tb : TS} {D : Ends} {σ : L2.St} {H1 : Hp} (hi : i < n) (h : tb { D with nx := Pv (i + 1), ct := Pv (i + 1), bk := D.nx } σ H1) : WStep n Pv i tb D σ H1 :=
  ⟨Pv (i + 1), fun _ _ p => ⟨n - (i + 1), by omega, i + 1, rfl, by omega, p⟩, h⟩
end Bk

namespace Bk
open PySem PySem.Spec PyProof.Rows L2
/-! ### defs that are called where no text of a container is being written: repr may be asked there -/
/-- as a def's promise, but only around calls whose guards are none -/
def RunG (P : Program) (w : World) (K : PySem.W.Frag) (mg : Str → Option Value) (base : Heap) (k : Nat) (f : Addr) (fd : FuncData) (ps : List Str) (sp : Sp) : Prop :=
  (∀ vs H Q E, sp vs H Q E → vs.length = ps.length) ∧
  ∀ (A : Around) (outer : List Env) (s : Shared) (H : Hp) (args : Args) (us : List Value) (vs : List V) (Q : VK) (E : XK), A.guards = some [] → Room k A → Env0 P w K mg base A outer s H → BindsTo s fd args (ps.zip us) → Vals vs us → sp vs H Q E →
    codeAny (model P w) A (.call (.ref f) args) (CR CX0 outer P w H s Q E) s
/-! ### repr of data without dicts -/
mutual
theorem Th.dp {K : PySem.W.Frag} {H : Hp} : ∀ {v : V} {d : PyData}, Th K H v d → d.hasDict = false → Dp K H v d
  | _, _, .non, _ => .non
  | _, _, .bl b, _ => .bl b
  | _, _, .int i, _ => .int i
  | _, _, .str x, _ => .str x
  | _, _, .lst h t, n => .lst h (ThAll.dp t (by simpa only [PyData.hasDict] using n))
  | _, _, .tup h t, n => .tup h (ThAll.dp t (by simpa only [PyData.hasDict] using n))
  | _, _, .dic _, n => by simp only [PyData.hasDict] at n; cases n
theorem ThAll.dp {K : PySem.W.Frag} {H : Hp} : ∀ {vs : List V} {ds : List PyData}, ThAll K H vs ds → PyData.hasDictAll ds = false → DpAll K H vs ds
  | _, _, .nil, _ => .nil
  | _, _, .cons h t, n => by
    simp only [PyData.hasDictAll, Bool.or_eq_false_iff] at n
    exact .cons (Th.dp h n.1) (ThAll.dp t n.2)
end
/-- what may be shown: ints of few figures, not too deep, not too long -/
structure Shows (d : PyData) : Prop where
  nodict : d.hasDict = false
  able : d.showable = true
  deep : d.depth ≤ 60
  short : d.shown.length ≤ sizeLine
def rRepr (K : PySem.W.Frag) : List V → Hp → VK → Prop := fun xs H Q => ∃ x d, xs = [x] ∧ Th K H x d ∧ Shows d ∧ Q (.str d.shown) H
theorem rRepr_r {K : PySem.W.Frag} {x : V} {H : Hp} {Q : VK} : rRepr K [x] H Q = ∃ d, Th K H x d ∧ Shows d ∧ Q (.str d.shown) H := propext ⟨fun ⟨y, d, e, h⟩ => by cases e; exact ⟨d, h⟩, fun ⟨d, h⟩ => ⟨x, d, rfl, h⟩⟩
/-! ### data of small numbers -/
mutual
/-- no dict, no text, ints below 10 ** 12 -/
def smB : PyData → Bool
  | .none | .bool _ => true
  | .int i => decide (i.natAbs < 10 ^ 12)
  | .str _ | .dict _ => false
  | .list xs | .tuple xs => smAll xs
def smAll : List PyData → Bool
  | [] => true
  | x :: xs => smB x && smAll xs
end
theorem log12 {n : Nat} (h : n < 10 ^ 12) : n.log2 < 40 := by
  by_cases h0 : n = 0
  · subst h0
    decide
  · exact (Nat.log2_lt h0).mpr (Nat.lt_of_lt_of_le h (by decide))
mutual
theorem sm_facts : ∀ d : PyData, smB d = true → d.hasDict = false ∧ d.showable = true ∧ d.leavesShort 13 = true
  | .none, _ => by simp only [PyData.hasDict, PyData.showable, PyData.leavesShort, and_self]
  | .bool _, _ => by simp only [PyData.hasDict, PyData.showable, PyData.leavesShort, and_self]
  | .int i, h => by
    have h : i.natAbs < 10 ^ 12 := by simpa only [smB, decide_eq_true_eq] using h
    have h1 := log12 h
    have h2 := PyData.shown_int_le h
    simp only [PyData.hasDict, PyData.showable, PyData.leavesShort, decide_eq_true_eq, true_and]
    exact ⟨by omega, h2⟩
  | .str _, h => by simp only [smB] at h; cases h
  | .dict _, h => by simp only [smB] at h; cases h
  | .list xs, h => by
    have h1 := smAll_facts xs (by simpa only [smB] using h)
    simpa only [PyData.hasDict, PyData.showable, PyData.leavesShort] using h1
  | .tuple xs, h => by
    have h1 := smAll_facts xs (by simpa only [smB] using h)
    simpa only [PyData.hasDict, PyData.showable, PyData.leavesShort] using h1
theorem smAll_facts : ∀ ds : List PyData, smAll ds = true → PyData.hasDictAll ds = false ∧ PyData.showableAll ds = true ∧ PyData.leavesShortAll 13 ds = true
  | [], _ => by simp only [PyData.hasDictAll, PyData.showableAll, PyData.leavesShortAll, and_self]
  | x :: xs, h => by
    have h : smB x = true ∧ smAll xs = true := by simpa only [smAll, Bool.and_eq_true] using h
    obtain ⟨a1, a2, a3⟩ := sm_facts x h.1
    obtain ⟨b1, b2, b3⟩ := smAll_facts xs h.2
    simp only [PyData.hasDictAll, PyData.showableAll, PyData.leavesShortAll, a1, a2, a3, b1, b2, b3, Bool.or_self, Bool.and_self, and_self]
end
theorem bak_parts {b : Bak} (h : bakB (bakD b) = true) : (1 ≤ b.lights.length ∧ b.lights.length ≤ 40) ∧ (∀ z ∈ b.lights, numD (.int z) = true) ∧ boundB (optD b.bound) = true ∧ (1 ≤ b.goods.length ∧ b.goods.length ≤ 2) ∧
    ∀ g ∈ b.goods, g.days.length = b.lights.length ∧ lifeB (optD g.life) = true ∧ ∀ d ∈ g.days, dayB (dayD d) = true := by
  obtain ⟨ls, bo, gs, e, h1, h2, h3, h4⟩ := bakB_inv h
  unfold bakD at e
  injection e with e
  injection e with e1 e
  injection e with e2 e
  injection e with e3 e
  injection e1 with e1
  injection e3 with e3
  subst e1 e2 e3
  have l1 := Bool.and_eq_true_iff.mp h1
  have l2 := Bool.and_eq_true_iff.mp l1.1
  have l3 := Bool.and_eq_true_iff.mp h3
  have a1 := of_decide_eq_true l2.1
  have a2 := of_decide_eq_true l2.2
  have a3 := of_decide_eq_true l3.1
  have a4 := of_decide_eq_true l3.2
  rw [List.length_map] at a1 a2 a3 a4
  refine ⟨⟨a1, a2⟩, fun z hz => List.all_eq_true.mp l1.2 _ (List.mem_map.mpr ⟨z, hz, rfl⟩), h2, ⟨a3, a4⟩, fun g hg => ?_⟩
  have h5 := List.all_eq_true.mp h4 (goodD g) (List.mem_map.mpr ⟨g, hg, rfl⟩)
  obtain ⟨ds, l, e4, e5, e6, e7⟩ := goodB_inv h5
  unfold goodD at e4
  injection e4 with e4
  injection e4 with e4 e8
  injection e8 with e8 _
  injection e4 with e4
  subst e4 e8
  rw [List.length_map, List.length_map] at e5
  exact ⟨e5, e6, fun d hd => List.all_eq_true.mp e7 _ (List.mem_map.mpr ⟨d, hd, rfl⟩)⟩
end Bk

namespace Bk
open PySem PySem.Spec PyProof.Rows L2
/-! ### prices of loaves that cross -/
theorem sumO_append : ∀ {l m : List (Option Int)} {z : Int}, sumO (l ++ m) = some z → ∃ x y, sumO l = some x ∧ sumO m = some y ∧ x + y = z
  | [], m, z, h => ⟨0, z, rfl, h, Int.zero_add z⟩
  | none :: l, m, z, h => by cases h
  | some a :: l, m, z, h => by
    have h : (sumO (l ++ m)).map (a + ·) = some z := h
    cases e : sumO (l ++ m) with
    | none => rw [e] at h; cases h
    | some b =>
      rw [e] at h
      have h : a + b = z := Option.some.inj h
      obtain ⟨x, y, h1, h2, h3⟩ := sumO_append e
      refine ⟨a + x, y, ?_, h2, by omega⟩
      show (sumO l).map (a + ·) = some (a + x)
      rw [h1]
      rfl
theorem sumO_nonneg : ∀ {l : List (Option Int)} {z : Int}, (∀ o ∈ l, ∀ i, o = some i → 0 ≤ i) → sumO l = some z → 0 ≤ z
  | [], z, _, h => by
    have h : (0 : Int) = z := Option.some.inj h
    omega
  | none :: l, z, _, h => by cases h
  | some a :: l, z, hn, h => by
    have h : (sumO l).map (a + ·) = some z := h
    cases e : sumO l with
    | none => rw [e] at h; cases h
    | some b =>
      rw [e] at h
      have h : a + b = z := Option.some.inj h
      have h1 := sumO_nonneg (fun o ho => hn o (List.mem_cons_of_mem _ ho)) e
      have h2 := hn _ List.mem_cons_self a rfl
      omega
theorem seg_split {α : Type} (l : List α) {i j k : Nat} (h1 : i ≤ j) (h2 : j ≤ k) : (l.drop i).take (k - i) = (l.drop i).take (j - i) ++ (l.drop j).take (k - j) := by
  have e : k - i = (j - i) + (k - j) := by omega
  rw [e, List.take_add, List.drop_drop]
  congr 3
  omega
theorem sum_nonneg' : ∀ {l : List Int}, (∀ x ∈ l, 0 ≤ x) → 0 ≤ l.sum
  | [], _ => by decide
  | a :: r, h => by
    rw [List.sum_cons]
    have h1 := h a List.mem_cons_self
    have h2 := sum_nonneg' fun x hx => h x (List.mem_cons_of_mem _ hx)
    omega
theorem sum_append' : ∀ (l m : List Int), (l ++ m).sum = l.sum + m.sum
  | [], m => by rw [List.nil_append, List.sum_nil]; omega
  | a :: r, m => by rw [List.cons_append, List.sum_cons, List.sum_cons, sum_append' r m]; omega
theorem keepsL_split (ds : List Day) {i j k : Nat} (h1 : i ≤ j) (h2 : j ≤ k) : keepsL ds i k = keepsL ds i j + keepsL ds j k := by
  unfold keepsL
  rw [seg_split ds h1 h2, List.map_append, sum_append']
theorem finesL_split {ds : List Day} {i j k : Nat} {z : Int} (h1 : i ≤ j) (h2 : j ≤ k) (h : finesL ds i k = some z) : ∃ x y, finesL ds i j = some x ∧ finesL ds j k = some y ∧ x + y = z := by
  unfold finesL at h
  rw [seg_split ds h1 h2, List.map_append] at h
  exact sumO_append h
/-- keeps and fines are no less than 0 -/
structure NonNeg (ds : List Day) : Prop where
  keep : ∀ d ∈ ds, 0 ≤ d.keep
  fine : ∀ d ∈ ds, ∀ i, d.fine = some i → 0 ≤ i
theorem seg_mem {α : Type} {l : List α} {i n : Nat} {x : α} (h : x ∈ (l.drop i).take n) : x ∈ l := List.mem_of_mem_drop (List.mem_of_mem_take h)
theorem keepsL_nonneg {ds : List Day} (N : NonNeg ds) (i j : Nat) : 0 ≤ keepsL ds i j := sum_nonneg' fun x hx => by
  obtain ⟨d, hd, rfl⟩ := List.mem_map.mp hx
  exact N.keep d (seg_mem hd)
theorem finesL_nonneg {ds : List Day} (N : NonNeg ds) {i j : Nat} {z : Int} (h : finesL ds i j = some z) : 0 ≤ z := sumO_nonneg (fun o ho i e => by
  obtain ⟨d, hd, rfl⟩ := List.mem_map.mp ho
  exact N.fine d (seg_mem hd) i e) h
/-- what comes to the loaf price -/
def extP (g : Good) (j k : Nat) : Option Int := if k < j then finesL g.days k j else match g.life with
  | none => some (keepsL g.days j k)
  | some l => if l < (k : Int) - (j : Int) then none else some (keepsL g.days j k)
theorem loafP_ext {g : Good} {j k : Nat} {d : Day} (hd : g.days[j]? = some d) : loafP g j k = (extP g j k).map (d.loaf + ·) := by
  unfold loafP extP
  rw [hd]
  dsimp only
  by_cases h : k < j
  · rw [if_pos h, if_pos h]
  · rw [if_neg h, if_neg h]
    cases g.life with
    | none => rfl
    | some l =>
      dsimp only
      by_cases h2 : l < (k : Int) - (j : Int)
      · rw [if_pos h2, if_pos h2]
        rfl
      · rw [if_neg h2, if_neg h2]
        rfl
theorem ext_keep {g : Good} {j k : Nat} (h : j ≤ k) {z : Int} : extP g j k = some z ↔ (∀ l, g.life = some l → (k : Int) - (j : Int) ≤ l) ∧ keepsL g.days j k = z := by
  unfold extP
  rw [if_neg (by omega)]
  cases hl : g.life with
  | none => exact ⟨fun e => ⟨fun l h => (by cases h), Option.some.inj e⟩, fun e => by rw [e.2]⟩
  | some l =>
    dsimp only
    by_cases h2 : l < (k : Int) - (j : Int)
    · rw [if_pos h2]
      exact ⟨fun e => (by cases e), fun e => by have := e.1 l rfl; omega⟩
    · rw [if_neg h2]
      exact ⟨fun e => ⟨fun l' h' => (by cases h'; omega), Option.some.inj e⟩, fun e => by rw [e.2]⟩
theorem ext_fine {g : Good} {j k : Nat} (h : k < j) {z : Int} : extP g j k = some z ↔ finesL g.days k j = some z := by
  unfold extP
  rw [if_pos h]
theorem ext_cross {g : Good} (N : NonNeg g.days) {a c e l : Nat} (hac : a < c) (hel : e < l) {x y : Int} (h1 : extP g a l = some x) (h2 : extP g c e = some y) : ∃ z t, extP g a e = some z ∧ extP g c l = some t ∧ z + t ≤ x + y := by
  by_cases hal : a ≤ l
  · obtain ⟨hlf, hk1⟩ := (ext_keep hal).mp h1
    by_cases hce : c ≤ e
    · -- all ahead
      obtain ⟨_, hk2⟩ := (ext_keep hce).mp h2
      refine ⟨_, _, (ext_keep (by omega)).mpr ⟨fun m hm => by have := hlf m hm; omega, rfl⟩, (ext_keep (by omega)).mpr ⟨fun m hm => by have := hlf m hm; omega, rfl⟩, ?_⟩
      have e1 := keepsL_split g.days (show a ≤ c by omega) hce
      have e2 := keepsL_split g.days (show a ≤ c by omega) (show c ≤ l by omega)
      omega
    · have hf := (ext_fine (show e < c by omega)).mp h2
      by_cases hae : a ≤ e
      · by_cases hcl : c ≤ l
        · refine ⟨_, _, (ext_keep hae).mpr ⟨fun m hm => by have := hlf m hm; omega, rfl⟩, (ext_keep hcl).mpr ⟨fun m hm => by have := hlf m hm; omega, rfl⟩, ?_⟩
          have e1 := keepsL_split g.days hae (show e ≤ l by omega)
          have e2 := keepsL_split g.days (show e ≤ c by omega) hcl
          have n1 := keepsL_nonneg N e c
          have n2 := finesL_nonneg N hf
          omega
        · obtain ⟨u, v, f1, f2, f3⟩ := finesL_split (show e ≤ l by omega) (show l ≤ c by omega) hf
          refine ⟨_, _, (ext_keep hae).mpr ⟨fun m hm => by have := hlf m hm; omega, rfl⟩, (ext_fine (by omega)).mpr f2, ?_⟩
          have e1 := keepsL_split g.days hae (show e ≤ l by omega)
          have n1 := keepsL_nonneg N e l
          have n2 := finesL_nonneg N f1
          omega
      · obtain ⟨u, v, f1, f2, f3⟩ := finesL_split (show e ≤ a by omega) (show a ≤ c by omega) hf
        by_cases hcl : c ≤ l
        · refine ⟨_, _, (ext_fine (by omega)).mpr f1, (ext_keep hcl).mpr ⟨fun m hm => by have := hlf m hm; omega, rfl⟩, ?_⟩
          have e1 := keepsL_split g.days (show a ≤ c by omega) hcl
          have n1 := keepsL_nonneg N a c
          have n2 := finesL_nonneg N f2
          omega
        · obtain ⟨u2, v2, k1, k2, k3⟩ := finesL_split (show e ≤ l by omega) (show l ≤ c by omega) hf
          obtain ⟨u3, v3, m1, m2, m3⟩ := finesL_split (show e ≤ a by omega) hal k1
          have e3 : u = u3 := Option.some.inj (f1.symm.trans m1)
          refine ⟨_, _, (ext_fine (by omega)).mpr f1, (ext_fine (by omega)).mpr k2, ?_⟩
          have n1 := keepsL_nonneg N a l
          have n2 := finesL_nonneg N m2
          omega
  · have hf1 := (ext_fine (show l < a by omega)).mp h1
    have hf2 := (ext_fine (show e < c by omega)).mp h2
    obtain ⟨u, v, f1, f2, f3⟩ := finesL_split (show e ≤ a by omega) (show a ≤ c by omega) hf2
    obtain ⟨u2, v2, k1, k2, k3⟩ := finesL_split (show e ≤ l by omega) (show l ≤ c by omega) hf2
    obtain ⟨u3, v3, m1, m2, m3⟩ := finesL_split (show e ≤ l by omega) (show l ≤ a by omega) f1
    refine ⟨_, _, (ext_fine (by omega)).mpr f1, (ext_fine (by omega)).mpr k2, ?_⟩
    have e1 : u2 = u3 := Option.some.inj (k1.symm.trans m1)
    have e2 : v3 = x := Option.some.inj (m2.symm.trans hf1)
    omega
theorem loaf_cross {g : Good} (N : NonNeg g.days) {a c e l : Nat} (hac : a < c) (hel : e < l) (hc : c < g.days.length) {x y : Int} (h1 : loafP g a l = some x) (h2 : loafP g c e = some y) : ∃ z t, loafP g a e = some z ∧ loafP g c l = some t ∧ z + t ≤ x + y := by
  have da : g.days[a]? = some (g.days[a]'(by omega)) := List.getElem?_eq_getElem (by omega)
  have dc : g.days[c]? = some g.days[c] := List.getElem?_eq_getElem hc
  rw [loafP_ext da] at h1
  rw [loafP_ext dc] at h2
  cases e1 : extP g a l with
  | none => rw [e1] at h1; cases h1
  | some x' =>
    cases e2 : extP g c e with
    | none => rw [e2] at h2; cases h2
    | some y' =>
      rw [e1] at h1
      rw [e2] at h2
      have h1 := Option.some.inj h1
      have h2 := Option.some.inj h2
      obtain ⟨z, t, q1, q2, q3⟩ := ext_cross N hac hel e1 e2
      refine ⟨_, _, by rw [loafP_ext da, q1]; rfl, by rw [loafP_ext dc, q2]; rfl, ?_⟩
      dsimp only at h1 h2 ⊢
      omega
theorem rNin_r {K : PySem.W.Frag} {x : V} {p : Addr} {H : Hp} {Q : VK} : rIn K true x (.ref p) H Q = ∃ xs, (SqL K H p xs ∨ SqT K H p xs) ∧ flatV x = true ∧ xs.all flatV = true ∧ Q (.bl (!inV x xs)) H :=
  propext ⟨fun ⟨_, xs, e, h⟩ => by cases e; exact ⟨xs, h⟩, fun ⟨xs, h⟩ => ⟨p, xs, rfl, h⟩⟩
end Bk

namespace Bk
open PySem PySem.Spec PyProof.Rows L2
/-! ### ranges as values -/
def rRg1 : List V → Hp → VK → Prop := fun vs H Q => ∃ j, vs = [V.int j] ∧ ∀ p, H p = none → Q (.ref p) (upd H p (.rng 0 j))
def rRg2 : List V → Hp → VK → Prop := fun vs H Q => ∃ i j, vs = [V.int i, V.int j] ∧ ∀ p, H p = none → Q (.ref p) (upd H p (.rng i j))
theorem rRg1_i {j : Int} {H : Hp} {Q : VK} : rRg1 [.int j] H Q = ∀ p, H p = none → Q (.ref p) (upd H p (.rng 0 j)) := propext ⟨fun ⟨_, e, h⟩ => by cases e; exact h, fun h => ⟨j, rfl, h⟩⟩
theorem rRg2_i {i j : Int} {H : Hp} {Q : VK} : rRg2 [.int i, .int j] H Q = ∀ p, H p = none → Q (.ref p) (upd H p (.rng i j)) := propext ⟨fun ⟨_, _, e, h⟩ => by cases e; exact h, fun h => ⟨i, j, rfl, h⟩⟩
def rInr : R2 := fun x y H Q => ∃ i a lo hi, x = V.int i ∧ y = V.ref a ∧ H a = some (.rng lo hi) ∧ Q (.bl (decide (lo ≤ i ∧ i < hi))) H
theorem rInr_r {i : Int} {a : Addr} {H : Hp} {Q : VK} : rInr (.int i) (.ref a) H Q = ∃ lo hi, H a = some (.rng lo hi) ∧ Q (.bl (decide (lo ≤ i ∧ i < hi))) H := propext ⟨fun ⟨_, _, lo, hi, e1, e2, h⟩ => by cases e1; cases e2; exact ⟨lo, hi, h⟩, fun ⟨lo, hi, h⟩ => ⟨i, a, lo, hi, rfl, rfl, h⟩⟩
theorem ipI_ii {f : Int → Int → Int} {i j : Int} {H : Hp} {Q : VK} : ipI f (.int i) (.int j) H Q = Q (.int (f i j)) H := propext ⟨fun ⟨_, _, e1, e2, h⟩ => by cases e1; cases e2; exact h, fun h => ⟨i, j, rfl, rfl, h⟩⟩
theorem lay_ints : ∀ ns : List Int, PyData.canLayAll0 (ns.map PyData.int) = true
  | [] => by simp only [List.map, PyData.canLayAll0]
  | n :: r => by simp only [List.map, PyData.canLayAll0, PyData.canLay0, lay_ints r, Bool.and_self]
theorem depth_ints : ∀ ns : List Int, PyData.depthAll (ns.map PyData.int) = 0
  | [] => by simp only [List.map, PyData.depthAll]
  | n :: r => by simp only [List.map, PyData.depthAll, PyData.depth, depth_ints r]; decide
theorem dp_ints {K : PySem.W.Frag} {H : Hp} : ∀ ns : List Int, DpAll K H (ns.map V.int) (ns.map PyData.int)
  | [] => .nil
  | n :: r => .cons (.int n) (dp_ints r)
/-! ### prices of stretches, and reaches -/
def wantP (g : Good) (j k : Nat) : Option Int := match g.days[k]? with
  | none => none
  | some d => if d.want = 0 then some 0 else (loafP g j k).map (d.want * ·)
def stretchP (g : Good) (j f n : Nat) : Option Int := sumO ((List.range n).map fun i => wantP g j (f + i))
theorem sumO_snoc (l : List (Option Int)) (o : Option Int) : sumO (l ++ [o]) = match sumO l, o with
    | some x, some y => some (x + y)
    | _, _ => none := by
  induction l with
  | nil =>
    cases o with
    | none => rfl
    | some y =>
      show some (y + 0) = some (0 + y)
      rw [Int.add_zero, Int.zero_add]
  | cons a r ih =>
    cases a with
    | none => rfl
    | some a =>
      show (sumO (r ++ [o])).map (a + ·) = _
      rw [ih]
      show _ = match (sumO r).map (a + ·), o with
        | some x, some y => some (x + y)
        | _, _ => none
      cases sumO r with
      | none => rfl
      | some x =>
        cases o with
        | none => rfl
        | some y =>
          show some (a + (x + y)) = some (a + x + y)
          rw [Int.add_assoc]
def reachF (g : Good) (k : Nat) : Int := match g.life with
  | none => 0
  | some l => if (k : Int) - l > 0 then (k : Int) - l else 0
/-- last is the last day of the reach -/
structure ReachL (g : Good) (k last : Nat) : Prop where
  le : k ≤ last
  lt : last < g.days.length
  fine : ∃ z, finesL g.days k last = some z
  stop : last + 1 < g.days.length → ∃ d, g.days[last]? = some d ∧ d.fine = none
theorem sumO_join' : ∀ {l m : List (Option Int)} {x y : Int}, sumO l = some x → sumO m = some y → sumO (l ++ m) = some (x + y)
  | [], m, x, y, h1, h2 => by
    have h1 : (0 : Int) = x := Option.some.inj h1
    rw [← h1, Int.zero_add]
    exact h2
  | none :: l, m, x, y, h1, h2 => by cases h1
  | some a :: l, m, x, y, h1, h2 => by
    have h1 : (sumO l).map (a + ·) = some x := h1
    cases e : sumO l with
    | none => rw [e] at h1; cases h1
    | some b =>
      rw [e] at h1
      have h1 : a + b = x := Option.some.inj h1
      show (sumO (l ++ m)).map (a + ·) = some (x + y)
      rw [sumO_join' e h2]
      show some (a + (b + y)) = some (x + y)
      rw [← h1, Int.add_assoc]
end Bk

/-! an own error class over ValueError whose __init__ begins with super().__init__(..) -/
namespace Bk
open PySem PySem.Spec PyProof.Rows L2
/-- what the written part says, besides OexC, of such a class at C and of its __init__, with the cell cc and the code cda -/
structure SupC (P : Program) (K : PySem.W.Frag) (C cc cda : Addr) : Prop where
  code : ∃ ccl cdd vs ccs file tf, K.lookup cda = some ⟨ccl, cdd, .fields vs, ccs⟩ ∧ vs[2]? = some (.str file tf) ∧ ((P.main.file : Str) == file) = true
  cell : ∃ cl cld csl, K.lookup cc = some ⟨cl, cld, .cell (some (.ref C)), csl⟩
  sup : PySem.W.ks_superIn K C C "__init__" = some (some (.builtin "ValueError.__init__"))
  mro : PySem.W.mroIn K C (.ref C) = some true
  sub : PySem.W.subIn K (.ref C) (.type "ValueError") = some true
  super : PySem.W.nsIn K mainGlobals "super" = some none
  opq : PySem.W.nsIn K cStatics "thirdparty.any" = some none
  top : (P.main.scope.names.lookup ("super" : Str)).isSome = false
section
open NdefX
variable {CX : CXT} {P : Program} {w : World} {K : PySem.W.Frag} {mg : Str → Option Value} {base : Heap} {N pr : List Str} {f C cc cda : Addr} {k : Nat} {sp : Sp}
  {qual : Str} {params : Arguments} {scope : Scope} {dV kV doc pm ct oc : Value} {an od : Option Addr} {osl : Array (Option Value)} {e : Expr} {es : List Expr} {rest : List Stmt} {p0 p1 p2 pos posE pa : Pos} {ann : Option Expr} {more : List Arg}
end
end Bk

namespace Bk
open PySem PySem.Spec PyProof.Rows L2
/-! ### the row of least costs: what it is -/
/-- from the m first days' end back: the least of row f + cost + the prices from f to m -/
def lbo (row : Nat → Int) (w : Nat → Option Int) : Nat → Int → Option Int → Option Int
  | 0, _, least => least
  | m + 1, cost, least => match w m with
    | none => least
    | some p => lbo row w m (cost + p) (some (match least with
      | none => row m + (cost + p)
      | some l => if row m + (cost + p) < l then row m + (cost + p) else l))
def segP (w : Nat → Option Int) (f n : Nat) : Option Int := sumO ((List.range n).map fun i => w (f + i))
theorem segP_zero (w : Nat → Option Int) (f : Nat) : segP w f 0 = some 0 := rfl
theorem segP_succ {w : Nat → Option Int} {f n : Nat} {s : Int} (h : segP w f (n + 1) = some s) : ∃ x y, segP w f n = some x ∧ w (f + n) = some y ∧ s = x + y := by
  unfold segP at h
  rw [List.range_succ, List.map_append] at h
  have h := (sumO_snoc _ _).symm.trans h
  cases e1 : sumO ((List.range n).map fun i => w (f + i)) with
  | none =>
    rw [e1] at h
    cases h
  | some x =>
    rw [e1] at h
    have h : (match some x, w (f + n) with
      | some x, some y => some (x + y)
      | _, _ => none) = some s := h
    cases e2 : w (f + n) with
    | none =>
      rw [e2] at h
      cases h
    | some y =>
      rw [e2] at h
      exact ⟨x, y, e1, rfl, (Option.some.inj h).symm⟩
theorem segP_add {w : Nat → Option Int} {f n : Nat} {x y : Int} (h1 : segP w f n = some x) (h2 : w (f + n) = some y) : segP w f (n + 1) = some (x + y) := by
  unfold segP at h1 ⊢
  rw [List.range_succ, List.map_append]
  refine (sumO_snoc _ _).trans ?_
  rw [h1]
  show (match some x, w (f + n) with
      | some x, some y => some (x + y)
      | _, _ => none) = _
  rw [h2]
theorem lbo_from {row : Nat → Int} {w : Nat → Option Int} : ∀ (m : Nat) (cost : Int) (least : Option Int) (v : Int), lbo row w m cost least = some v → least = some v ∨ ∃ f s, f < m ∧ segP w f (m - f) = some s ∧ v = row f + cost + s
  | 0, cost, least, v, h => .inl h
  | m + 1, cost, least, v, h => by
    unfold lbo at h
    cases hw : w m with
    | none =>
      rw [hw] at h
      exact .inl h
    | some p =>
      rw [hw] at h
      have base : segP w m (m + 1 - m) = some p := by
        rw [show m + 1 - m = 0 + 1 by omega]
        have := segP_add (segP_zero w m) (show w (m + 0) = some p from hw)
        rw [this, Int.zero_add]
      rcases lbo_from m (cost + p) _ v h with e | ⟨f, s, hf, hs, e⟩
      · have e := Option.some.inj e
        cases least with
        | none => exact .inr ⟨m, p, by omega, base, by dsimp only at e; omega⟩
        | some l =>
          dsimp only at e
          split at e
          · exact .inr ⟨m, p, by omega, base, by omega⟩
          · exact .inl (congrArg some e)
      · refine .inr ⟨f, s + p, by omega, ?_, by omega⟩
        rw [show m + 1 - f = (m - f) + 1 by omega]
        exact segP_add hs (by rw [show f + (m - f) = m by omega]; exact hw)
theorem lbo_keep {row : Nat → Int} {w : Nat → Option Int} : ∀ (m : Nat) (cost : Int) (l : Int), ∃ v, lbo row w m cost (some l) = some v ∧ v ≤ l
  | 0, cost, l => ⟨l, rfl, Int.le_refl _⟩
  | m + 1, cost, l => by
    unfold lbo
    cases hw : w m with
    | none => exact ⟨l, rfl, Int.le_refl _⟩
    | some p =>
      obtain ⟨v, h1, h2⟩ := lbo_keep (row := row) (w := w) m (cost + p) (if row m + (cost + p) < l then row m + (cost + p) else l)
      refine ⟨v, h1, ?_⟩
      split at h2 <;> omega
theorem lbo_least {row : Nat → Int} {w : Nat → Option Int} : ∀ (m : Nat) (cost : Int) (least : Option Int) (f : Nat) (s : Int), f < m → segP w f (m - f) = some s → ∃ v, lbo row w m cost least = some v ∧ v ≤ row f + cost + s
  | 0, _, _, f, _, hf, _ => by omega
  | m + 1, cost, least, f, s, hf, hs => by
    rw [show m + 1 - f = (m - f) + 1 by omega] at hs
    obtain ⟨x, y, h1, h2, h3⟩ := segP_succ hs
    rw [show f + (m - f) = m by omega] at h2
    unfold lbo
    rw [h2]
    dsimp only
    by_cases hfm : f < m
    · obtain ⟨v, e1, e2⟩ := lbo_least m (cost + y) (some (match least with
        | none => row m + (cost + y)
        | some l => if row m + (cost + y) < l then row m + (cost + y) else l)) f x hfm h1
      exact ⟨v, e1, by omega⟩
    · have hfm : f = m := by omega
      subst hfm
      rw [Nat.sub_self] at h1
      have h1 : (0 : Int) = x := Option.some.inj h1
      obtain ⟨v, e1, e2⟩ := lbo_keep (row := row) (w := w) f (cost + y) (match least with
        | none => row f + (cost + y)
        | some l => if row f + (cost + y) < l then row f + (cost + y) else l)
      refine ⟨v, e1, ?_⟩
      cases least with
      | none =>
        dsimp only at e2
        omega
      | some l =>
        dsimp only at e2
        split at e2 <;> omega
/-- v is the cost of a choice for the m + 1 first days: a stretch from f on, baked on b, behind the f first days; or nothing wanted on day m -/
def Choice (g : Good) (lights row : Nat → Int) (m : Nat) (v : Int) : Prop := (∃ b f s, b ≤ m ∧ f ≤ m ∧ segP (wantP g b) f (m + 1 - f) = some s ∧ v = row f + lights b + s) ∨ ((∃ d, g.days[m]? = some d ∧ d.want = 0) ∧ v = row m)
structure IsRow (g : Good) (lights row : Nat → Int) (n : Nat) : Prop where
  zero : row 0 = 0
  some : ∀ m, m < n → Choice g lights row m (row (m + 1))
  least : ∀ m, m < n → ∀ v, Choice g lights row m v → row (m + 1) ≤ v
theorem IsRow.ext {g : Good} {lights row row' : Nat → Int} {n : Nat} (h : IsRow g lights row n) (h' : IsRow g lights row' n) : ∀ m, m ≤ n → row m = row' m := by
  intro m
  induction m using Nat.strongRecOn with
  | ind m ih =>
    intro hm
    cases m with
    | zero => rw [h.zero, h'.zero]
    | succ m =>
      have tr : ∀ v, Choice g lights row m v ↔ Choice g lights row' m v := by
        intro v
        have e : ∀ f, f ≤ m → row f = row' f := fun f hf => ih f (by omega) (by omega)
        constructor
        · rintro (⟨b, f, s, h1, h2, h3, h4⟩ | ⟨h1, h2⟩)
          · exact .inl ⟨b, f, s, h1, h2, h3, by rw [← e f h2]; exact h4⟩
          · exact .inr ⟨h1, by rw [← e m (by omega)]; exact h2⟩
        · rintro (⟨b, f, s, h1, h2, h3, h4⟩ | ⟨h1, h2⟩)
          · exact .inl ⟨b, f, s, h1, h2, h3, by rw [e f h2]; exact h4⟩
          · exact .inr ⟨h1, by rw [e m (by omega)]; exact h2⟩
      have a := h.least m (by omega) _ ((tr _).mpr (h'.some m (by omega)))
      have b := h'.least m (by omega) _ ((tr _).mp (h.some m (by omega)))
      omega
/-! ### days added -/
theorem seg_take {α : Type} (l : List α) {i k j : Nat} (h : k ≤ j) : ((l.take j).drop i).take (k - i) = (l.drop i).take (k - i) := by
  rw [List.drop_take, List.take_take]
  congr 1
  omega
theorem loafP_take {g : Good} {j b k : Nat} (hb : b < j) (hk : k < j) : loafP ⟨g.days.take j, g.life⟩ b k = loafP g b k := by
  unfold loafP
  rw [List.getElem?_take_of_lt hb]
  cases g.days[b]? with
  | none => rfl
  | some d =>
    dsimp only
    have e1 : finesL (g.days.take j) k b = finesL g.days k b := by
      unfold finesL
      rw [seg_take g.days (show b ≤ j by omega)]
    have e2 : keepsL (g.days.take j) b k = keepsL g.days b k := by
      unfold keepsL
      rw [seg_take g.days (show k ≤ j by omega)]
    rw [e1, e2]
theorem wantP_take {g : Good} {j b k : Nat} (hb : b < j) (hk : k < j) : wantP ⟨g.days.take j, g.life⟩ b k = wantP g b k := by
  unfold wantP
  rw [loafP_take hb hk]
  dsimp only
  rw [List.getElem?_take_of_lt hk]
theorem segP_take {g : Good} {j b f n : Nat} (hb : b < j) (hn : f + n ≤ j) : segP (wantP ⟨g.days.take j, g.life⟩ b) f n = segP (wantP g b) f n := by
  unfold segP
  congr 1
  apply List.map_congr_left
  intro i hi
  have := List.mem_range.mp hi
  exact wantP_take hb (by omega)
theorem Choice.take {g : Good} {lights row : Nat → Int} {j m : Nat} (hm : m < j) {v : Int} : Choice ⟨g.days.take j, g.life⟩ lights row m v ↔ Choice g lights row m v := by
  have e : ∀ b f, b ≤ m → f ≤ m → segP (wantP ⟨g.days.take j, g.life⟩ b) f (m + 1 - f) = segP (wantP g b) f (m + 1 - f) := fun b f h1 h2 => segP_take (by omega) (by omega)
  have ed : (g.days.take j)[m]? = g.days[m]? := List.getElem?_take_of_lt hm
  constructor
  · rintro (⟨b, f, s, h1, h2, h3, h4⟩ | ⟨⟨d, h1, h1'⟩, h2⟩)
    · exact .inl ⟨b, f, s, h1, h2, by rw [← e b f h1 h2]; exact h3, h4⟩
    · exact .inr ⟨⟨d, by rw [← ed]; exact h1, h1'⟩, h2⟩
  · rintro (⟨b, f, s, h1, h2, h3, h4⟩ | ⟨⟨d, h1, h1'⟩, h2⟩)
    · exact .inl ⟨b, f, s, h1, h2, by rw [e b f h1 h2]; exact h3, h4⟩
    · exact .inr ⟨⟨d, by show (g.days.take j)[m]? = _; rw [ed]; exact h1, h1'⟩, h2⟩
theorem IsRow.take {g : Good} {lights row : Nat → Int} {n j : Nat} (h : IsRow g lights row n) (hj : j ≤ n) : IsRow ⟨g.days.take j, g.life⟩ lights row j :=
  ⟨h.zero, fun m hm => (Choice.take hm).mpr (h.some m (by omega)), fun m hm v hv => h.least m (by omega) v ((Choice.take hm).mp hv)⟩
theorem wantP_own {g : Good} {m : Nat} {d : Day} (hd : g.days[m]? = some d) (hl : ∀ l, g.life = some l → 0 ≤ l) : wantP g m m = some (d.want * d.loaf) := by
  unfold wantP
  rw [hd]
  dsimp only
  by_cases hw : d.want = 0
  · rw [if_pos hw, hw, Int.zero_mul]
  · rw [if_neg hw, loafP_ext hd, (ext_keep (Nat.le_refl m)).mpr ⟨fun l e => by have := hl l e; omega, rfl⟩]
    show some (d.want * (d.loaf + keepsL g.days m m)) = _
    have e : keepsL g.days m m = 0 := by unfold keepsL; rw [Nat.sub_self]; rfl
    rw [e, Int.add_zero]
theorem own_choice {g : Good} {lights row : Nat → Int} {m : Nat} {d : Day} (hd : g.days[m]? = some d) (hl : ∀ l, g.life = some l → 0 ≤ l) : Choice g lights row m (row m + lights m + d.want * d.loaf) := by
  refine .inl ⟨m, m, _, Nat.le_refl _, Nat.le_refl _, ?_, rfl⟩
  rw [show m + 1 - m = 0 + 1 by omega]
  have := segP_add (segP_zero (wantP g m) m) (show wantP g m (m + 0) = some (d.want * d.loaf) from wantP_own hd hl)
  rw [this, Int.zero_add]
theorem Choice.congr {g : Good} {lights row row' : Nat → Int} {m : Nat} {v : Int} (e : ∀ f, f ≤ m → row f = row' f) (h : Choice g lights row m v) : Choice g lights row' m v := by
  rcases h with ⟨b, f, s, h1, h2, h3, h4⟩ | ⟨h1, h2⟩
  · exact .inl ⟨b, f, s, h1, h2, h3, by rw [← e f h2]; exact h4⟩
  · exact .inr ⟨h1, by rw [← e m (Nat.le_refl m)]; exact h2⟩
def rowF (rs : List Int) (i : Nat) : Int := rs.getD i 0
theorem rowF_snoc {rs : List Int} {v : Int} {f : Nat} (h : f < rs.length) : rowF (rs ++ [v]) f = rowF rs f := by
  unfold rowF
  rw [List.getD_eq_getElem?_getD, List.getD_eq_getElem?_getD, List.getElem?_append_left h]
theorem rowF_last {rs : List Int} {v : Int} {n : Nat} (h : rs.length = n) : rowF (rs ++ [v]) n = v := by
  unfold rowF
  rw [List.getD_eq_getElem?_getD, List.getElem?_append_right (by omega), h, Nat.sub_self]
  rfl
theorem rowF_get {rs : List Int} {f : Nat} (h : f < rs.length) : (rs.map V.int)[f]? = some (.int (rowF rs f)) := by
  unfold rowF
  rw [List.getElem?_map, List.getD_eq_getElem?_getD, List.getElem?_eq_getElem h]
  rfl
theorem IsRow.snoc {g : Good} {lights : Nat → Int} {rs : List Int} {n : Nat} {v : Int} (h : IsRow g lights (rowF rs) n) (hl : rs.length = n + 1) (hc : Choice g lights (rowF rs) n v) (hm : ∀ u, Choice g lights (rowF rs) n u → v ≤ u) : IsRow g lights (rowF (rs ++ [v])) (n + 1) := by
  have e : ∀ f, f ≤ n → rowF rs f = rowF (rs ++ [v]) f := fun f hf => (rowF_snoc (by omega)).symm
  have e' : ∀ f, f ≤ n → rowF (rs ++ [v]) f = rowF rs f := fun f hf => rowF_snoc (by omega)
  refine ⟨by rw [e' 0 (by omega)]; exact h.zero, fun m hmn => ?_, fun m hmn u hu => ?_⟩
  · by_cases hlt : m < n
    · rw [e' (m + 1) (by omega)]
      exact (h.some m hlt).congr fun f hf => e f (by omega)
    · have : m = n := by omega
      subst this
      rw [rowF_last hl]
      exact hc.congr e
  · by_cases hlt : m < n
    · rw [e' (m + 1) (by omega)]
      exact h.least m hlt u (hu.congr fun f hf => e' f (by omega))
    · have : m = n := by omega
      subst this
      rw [rowF_last hl]
      exact hm u (hu.congr e')
theorem IsRow.init (g : Good) (lights : Nat → Int) : IsRow g lights (rowF [0]) 0 := ⟨rfl, fun m h => by omega, fun m h => by omega⟩
/-! ### the least of the costs of each day of baking -/
def lbos (row lights : Nat → Int) (w : Nat → Nat → Option Int) (m c : Nat) : List (Option Int) := (List.range c).map fun b => lbo row (w b) (m + 1) (lights b) none
/-- a last stretch of the first m + 1 days, baked on one of the first c days -/
def ChC (row lights : Nat → Int) (w : Nat → Nat → Option Int) (c m : Nat) (v : Int) : Prop := ∃ b f s, b < c ∧ f ≤ m ∧ segP (w b) f (m + 1 - f) = some s ∧ v = row f + lights b + s
theorem lbos_mem {row lights : Nat → Int} {w : Nat → Nat → Option Int} {m c : Nat} {v : Int} (h : v ∈ (lbos row lights w m c).filterMap id) : ChC row lights w c m v := by
  obtain ⟨o, ho, e⟩ := List.mem_filterMap.mp h
  have e : o = some v := e
  subst e
  obtain ⟨b, hb, e⟩ := List.mem_map.mp ho
  have hb := List.mem_range.mp hb
  rcases lbo_from _ _ _ _ e with z | ⟨f, s, hf, hs, hv⟩
  · cases z
  · exact ⟨b, f, s, by omega, by omega, hs, hv⟩
theorem lbos_least {row lights : Nat → Int} {w : Nat → Nat → Option Int} {m c : Nat} {u : Int} (h : ChC row lights w c m u) : ∃ v, v ∈ (lbos row lights w m c).filterMap id ∧ v ≤ u := by
  obtain ⟨b, f, s, hb, hf, hs, hu⟩ := h
  obtain ⟨v, h1, h2⟩ := lbo_least (row := row) (w := w b) (m + 1) (lights b) none f s (by omega) hs
  exact ⟨v, List.mem_filterMap.mpr ⟨some v, List.mem_map.mpr ⟨b, List.mem_range.mpr (by omega), h1⟩, rfl⟩, by omega⟩
theorem own_chC {g : Good} {lights row : Nat → Int} {c m : Nat} {d : Day} (hc : m < c) (hd : g.days[m]? = some d) (hl : ∀ l, g.life = some l → 0 ≤ l) : ChC row lights (wantP g) c m (row m + lights m + d.want * d.loaf) := by
  refine ⟨m, m, _, hc, Nat.le_refl _, ?_, rfl⟩
  rw [show m + 1 - m = 0 + 1 by omega]
  have := segP_add (segP_zero (wantP g m) m) (show wantP g m (m + 0) = some (d.want * d.loaf) from wantP_own hd hl)
  rw [this, Int.zero_add]
theorem chC_choice {g : Good} {lights row : Nat → Int} {m : Nat} {v : Int} (h : ChC row lights (wantP g) (m + 1) m v) : Choice g lights row m v := by
  obtain ⟨b, f, s, hb, hf, hs, hv⟩ := h
  exact .inl ⟨b, f, s, by omega, hf, hs, hv⟩
theorem choice_chC {g : Good} {lights row : Nat → Int} {m : Nat} {v : Int} (h : Choice g lights row m v) : ChC row lights (wantP g) (m + 1) m v ∨ v = row m := by
  rcases h with ⟨b, f, s, hb, hf, hs, hv⟩ | ⟨_, h⟩
  · exact .inl ⟨b, f, s, by omega, hf, hs, hv⟩
  · exact .inr h
theorem choice_not {g : Good} {lights row : Nat → Int} {m : Nat} {d : Day} (hd : g.days[m]? = some d) (hw : d.want ≠ 0) {v : Int} (h : Choice g lights row m v) : ChC row lights (wantP g) (m + 1) m v := by
  rcases h with ⟨b, f, s, hb, hf, hs, hv⟩ | ⟨⟨d', h1, h2⟩, _⟩
  · exact ⟨b, f, s, by omega, hf, hs, hv⟩
  · rw [hd] at h1
    cases h1
    exact absurd h2 hw
end Bk

namespace Bk
open PySem PySem.Spec PyProof.Rows L2
theorem rMin_r {K : PySem.W.Frag} {p : Addr} {H : Hp} {Q : VK} : rMin K [.ref p] H Q = ∃ ns : List Int, SqL K H p (ns.map V.int) ∧ 0 < ns.length ∧ ∀ m, m ∈ ns → (∀ y, y ∈ ns → m ≤ y) → Q (.int m) H := propext ⟨fun ⟨a, bs, e, h⟩ => by cases e; exact ⟨bs, h⟩, fun ⟨bs, h⟩ => ⟨p, bs, rfl, h⟩⟩
def lcScope (d : Scope) (l : List Stmt) (i : Nat) : Scope := match l[i]? with
  | some (.Assign _ (.ListComp _ _ sc _) _) => sc
  | _ => d
/-- a comprehension that leaves the Nones out -/
theorem LcR.opts {K : PySem.W.Frag} {a : Addr} {te : TE} {tt : TT} {g : TG} {vs : List Nat} {σ : L2.St} {H1 : Hp} {D : Addr} {Qd : Hp → Prop} (os : List (Option Int)) (hD : H1 D = none) (hl : SqL K H1 a (os.map optV)) (hz : os.length ≤ 1000)
    (hs : ∀ (o : Option Int) (H : Hp) (R : Bool → Hp → (V → Hp → Prop) → Prop), True → ∀ (N : Hp → Prop) (M : V → Hp → Prop), (o = none → N H) → (∀ z, o = some z → M (.int z) H) → g (optV o) (wipe σ vs) H fun σ2 H2 => wipe σ2 vs = wipe σ vs ∧ tt σ2 H2 fun b H3 => if b = true then te σ2 H3 M else N H3)
    (hd : ∀ H, Same H1 H → H D = some (.lst ((os.filterMap id).map V.int)) → Qd H) : LcR (Itl K a) g tt te vs σ D H1 Qd := by
  have e0 : (os.map optV).length = os.length := List.length_map ..
  refine LcR.by (walk_list (xs := os.map optV)) (fun i H => Same H1 H ∧ H D = some (.lst (((os.take i).filterMap id).map V.int))) ⟨same_upd hD, by rw [upd_same]; rfl⟩ (fun i H _ h => h.1.seq hl) (fun i x H H' hi h y => ?_) (fun H h => hd H h.1 ?_)
  · obtain ⟨rfl, hx⟩ := y
    rw [List.getElem?_map] at hx
    obtain ⟨s, e⟩ := h
    cases ho : os[i]? with
    | none => rw [ho] at hx; cases hx
    | some o =>
      rw [ho] at hx
      cases hx
      refine hs o _ (fun _ _ _ => True) trivial _ _ (fun hn => ⟨s, ?_⟩) (fun z hz' => ⟨_, e, ?_, same_mut s hD, ?_⟩)
      · rw [e, List.take_add_one, ho, hn]
        simp
      · have h1 : ((os.take i).filterMap id).length ≤ (os.take i).length := List.length_filterMap_le ..
        rw [List.length_take] at h1
        rw [List.length_map]
        exact sz100l (by omega)
      · rw [upd_same, List.take_add_one, ho, hz']
        simp
  · rw [e0, List.take_length] at h
    exact h.2
theorem ThAll.intsV {K : PySem.W.Frag} {H : Hp} : ∀ {xs : List V} {ns : List Int}, ThAll K H xs (ns.map PyData.int) → xs = ns.map V.int
  | _, [], .nil => rfl
  | _, n :: r, .cons (.int _) t => by rw [ThAll.intsV t]; rfl
theorem life_ok {g : Good} (h : lifeB (optD g.life) = true) : ∀ l, g.life = some l → 0 ≤ l := by
  intro l e
  rw [e] at h
  simp only [optD, lifeB, Bool.and_eq_true, decide_eq_true_eq] at h
  exact h.1
theorem rgV_zero (m : Nat) : rgV 0 (m : Int) = (List.range m).map fun j : Nat => V.int (j : Int) := by
  unfold rgV
  rw [show ((m : Int) - 0).toNat = m by omega]
  apply List.map_congr_left
  intro i _
  rw [Int.zero_add]
end Bk

namespace Bk
open PySem PySem.Spec PyProof.Rows L2
/-! ### rows rise where nothing may wait -/
structure NonNegW (ds : List Day) : Prop where
  nn : NonNeg ds
  want : ∀ d ∈ ds, 0 ≤ d.want
  loaf : ∀ d ∈ ds, 0 ≤ d.loaf
theorem nonNegW_of {ds : List Day} (h : ∀ d ∈ ds, dayB (dayD d) = true) : NonNegW ds := by
  have num : ∀ i : Int, numD (.int i) = true → 0 ≤ i := fun i h => by
    simp only [numD, Bool.and_eq_true, decide_eq_true_eq] at h
    exact h.1
  have k : ∀ d ∈ ds, (numD (.int d.want) = true ∧ numD (.int d.loaf) = true) ∧ numD (.int d.keep) = true ∧ ∀ i, d.fine = some i → numD (.int i) = true := by
    intro d hd
    have k := h d hd
    simp only [dayD, dayB, Bool.and_eq_true] at k
    refine ⟨k.1.1, k.1.2, fun i e => ?_⟩
    have k2 := k.2
    rw [e] at k2
    simpa [optD, noneB] using k2
  exact ⟨⟨fun d hd => num _ (k d hd).2.1, fun d hd i e => num _ ((k d hd).2.2 i e)⟩, fun d hd => num _ (k d hd).1.1, fun d hd => num _ (k d hd).1.2⟩
theorem loafP_nonneg {g : Good} (N : NonNegW g.days) {b k : Nat} {z : Int} (h : loafP g b k = some z) : 0 ≤ z := by
  cases hd : g.days[b]? with
  | none =>
    unfold loafP at h
    rw [hd] at h
    cases h
  | some d =>
    rw [loafP_ext hd] at h
    have h0 := N.loaf d (List.mem_of_getElem? hd)
    cases he : extP g b k with
    | none => rw [he] at h; cases h
    | some e =>
      rw [he] at h
      have h : d.loaf + e = z := Option.some.inj h
      have : 0 ≤ e := by
        by_cases hkb : k < b
        · exact finesL_nonneg N.nn ((ext_fine hkb).mp he)
        · rw [← ((ext_keep (by omega)).mp he).2]
          exact keepsL_nonneg N.nn _ _
      omega
theorem wantP_nonneg {g : Good} (N : NonNegW g.days) {b k : Nat} {z : Int} (h : wantP g b k = some z) : 0 ≤ z := by
  unfold wantP at h
  cases hd : g.days[k]? with
  | none => rw [hd] at h; cases h
  | some d =>
    rw [hd] at h
    dsimp only at h
    split at h
    · have h : (0 : Int) = z := Option.some.inj h
      omega
    · cases hp : loafP g b k with
      | none => rw [hp] at h; cases h
      | some y =>
        rw [hp] at h
        have h : d.want * y = z := Option.some.inj h
        rw [← h]
        exact Int.mul_nonneg (N.want d (List.mem_of_getElem? hd)) (loafP_nonneg N hp)
theorem wantP_late {g : Good} (nf : ∀ d ∈ g.days, d.fine = none) {b k : Nat} (hk : k < b) {z : Int} (h : wantP g b k = some z) : ∃ d, g.days[k]? = some d ∧ d.want = 0 := by
  unfold wantP at h
  cases hd : g.days[k]? with
  | none => rw [hd] at h; cases h
  | some d =>
    rw [hd] at h
    dsimp only at h
    split at h
    · exact ⟨d, rfl, by assumption⟩
    · exfalso
      cases hp : loafP g b k with
      | none => rw [hp] at h; cases h
      | some y =>
        cases hb : g.days[b]? with
        | none =>
          unfold loafP at hp
          rw [hb] at hp
          cases hp
        | some d' =>
          rw [loafP_ext hb] at hp
          cases he : extP g b k with
          | none => rw [he] at hp; cases hp
          | some e =>
            have hf := (ext_fine hk).mp he
            unfold finesL at hf
            obtain ⟨hlt, e1⟩ := List.getElem?_eq_some_iff.mp hd
            rw [List.drop_eq_getElem_cons hlt, e1, show b - k = (b - k - 1) + 1 by omega] at hf
            have hf : sumO (d.fine :: ((g.days.drop (k + 1)).take (b - k - 1)).map Day.fine) = some e := hf
            rw [nf d (List.mem_of_getElem? hd)] at hf
            cases hf
theorem segP_all {w : Nat → Option Int} {f : Nat} : ∀ {n : Nat} {s : Int}, segP w f n = some s → ∀ i, i < n → ∃ z, w (f + i) = some z
  | 0, _, _, i, hi => by omega
  | n + 1, s, h, i, hi => by
    obtain ⟨x, y, h1, h2, _⟩ := segP_succ h
    by_cases e : i < n
    · exact segP_all h1 i e
    · have : i = n := by omega
      subst this
      exact ⟨y, h2⟩
theorem segP_nonneg {w : Nat → Option Int} {f : Nat} (nn : ∀ k z, w k = some z → 0 ≤ z) : ∀ {n : Nat} {s : Int}, segP w f n = some s → 0 ≤ s
  | 0, s, h => by
    have : (0 : Int) = s := Option.some.inj h
    omega
  | n + 1, s, h => by
    obtain ⟨x, y, h1, h2, h3⟩ := segP_succ h
    have := segP_nonneg nn h1
    have := nn _ _ h2
    omega
theorem row_flat {g : Good} {lights row : Nat → Int} {n : Nat} (h : IsRow g lights row n) {f : Nat} : ∀ m, f ≤ m → m ≤ n → (∀ k, f ≤ k → k < m → ∃ d, g.days[k]? = some d ∧ d.want = 0) → row m ≤ row f
  | 0, h1, _, _ => by rw [show f = 0 by omega]; exact Int.le_refl _
  | m + 1, h1, h2, hz => by
    by_cases e : f = m + 1
    · rw [e]; exact Int.le_refl _
    · have a := row_flat h m (by omega) (by omega) fun k k1 k2 => hz k k1 (by omega)
      have b := h.least m (by omega) _ (.inr ⟨hz m (by omega) (by omega), rfl⟩)
      omega
theorem row_up {g : Good} {lights row : Nat → Int} {n : Nat} (h : IsRow g lights row n) (hl : ∀ b, 0 ≤ lights b) (N : NonNegW g.days) (nf : ∀ d ∈ g.days, d.fine = none) {m : Nat} (hm : m < n) : row m ≤ row (m + 1) := by
  rcases h.some m hm with ⟨b, f, s, hb, hf, hs, hv⟩ | ⟨_, hv⟩
  · have lb := hl b
    have sn : 0 ≤ s := segP_nonneg (fun k z e => wantP_nonneg N e) hs
    by_cases e : f = m
    · subst e
      omega
    · rw [show m + 1 - f = (m - f) + 1 by omega] at hs
      obtain ⟨x, y, h1, h2, h3⟩ := segP_succ hs
      have yn := wantP_nonneg N h2
      by_cases eb : b < m
      · have := h.least (m - 1) (by omega) (row f + lights b + x) (.inl ⟨b, f, x, by omega, by omega, by rw [show m - 1 + 1 - f = m - f by omega]; exact h1, rfl⟩)
        rw [show m - 1 + 1 = m by omega] at this
        omega
      · have eb : b = m := by omega
        subst eb
        have := row_flat h b (f := f) (by omega) (by omega) fun k k1 k2 => by
          obtain ⟨z, hz⟩ := segP_all h1 (k - f) (by omega)
          rw [show f + (k - f) = k by omega] at hz
          exact wantP_late nf k2 hz
        omega
  · omega
theorem rowF_nonneg {ls : List Int} (h : ∀ z ∈ ls, 0 ≤ z) (b : Nat) : 0 ≤ rowF ls b := by
  unfold rowF
  rw [List.getD_eq_getElem?_getD]
  cases e : ls[b]? with
  | none => exact Int.le_refl 0
  | some z => exact h z (List.mem_of_getElem? e)
/-! ### lists of days, compared -/
theorem Choice.lights {g : Good} {lights lights' row : Nat → Int} {m : Nat} {v : Int} (e : ∀ b, b ≤ m → lights b = lights' b) (h : Choice g lights row m v) : Choice g lights' row m v := by
  rcases h with ⟨b, f, s, h1, h2, h3, h4⟩ | h
  · exact .inl ⟨b, f, s, h1, h2, h3, by rw [← e b h1]; exact h4⟩
  · exact .inr h
theorem row_lights {g : Good} {lights lights' row : Nat → Int} {n : Nat} (e : ∀ b, b < n → lights b = lights' b) (h : IsRow g lights row n) : IsRow g lights' row n :=
  ⟨h.zero, fun m hm => (h.some m hm).lights fun b hb => e b (by omega), fun m hm v hv => h.least m hm v (hv.lights fun b hb => (e b (by omega)).symm)⟩
theorem rowF_take {ls : List Int} {m b : Nat} (h : b < m) : rowF (ls.take m) b = rowF ls b := by
  unfold rowF
  rw [List.getD_eq_getElem?_getD, List.getD_eq_getElem?_getD, List.getElem?_take_of_lt h]
end Bk

namespace Bk
open PySem PySem.Spec PyProof.Rows L2
/-! ### sums -/
def sumN (f : Nat → Int) : Nat → Int
  | 0 => 0
  | n + 1 => sumN f n + f n
theorem sumN_le {f f' : Nat → Int} : ∀ n, (∀ k, k < n → f k ≤ f' k) → sumN f n ≤ sumN f' n
  | 0, _ => Int.le_refl 0
  | n + 1, h => by
    have a := sumN_le n fun k hk => h k (by omega)
    have b := h n (by omega)
    show sumN f n + f n ≤ sumN f' n + f' n
    omega
theorem sumN_congr {f f' : Nat → Int} (n : Nat) (h : ∀ k, k < n → f k = f' k) : sumN f n = sumN f' n := by
  have a := sumN_le n fun k hk => Int.le_of_eq (h k hk)
  have b := sumN_le n fun k hk => Int.le_of_eq (h k hk).symm
  omega
theorem sumN_add (f f' : Nat → Int) : ∀ n, sumN (fun k => f k + f' k) n = sumN f n + sumN f' n
  | 0 => rfl
  | n + 1 => by
    show sumN (fun k => f k + f' k) n + (f n + f' n) = (sumN f n + f n) + (sumN f' n + f' n)
    rw [sumN_add f f' n]
    omega
theorem sumN_zero {f : Nat → Int} (n : Nat) (h : ∀ k, k < n → f k = 0) : sumN f n = 0 := by
  rw [sumN_congr (f' := fun _ => 0) n h]
  induction n with
  | zero => rfl
  | succ n ih =>
    show sumN (fun _ => 0) n + 0 = 0
    rw [ih fun k hk => h k (by omega)]
    rfl
theorem sumN_nonneg {f : Nat → Int} (n : Nat) (h : ∀ k, k < n → 0 ≤ f k) : 0 ≤ sumN f n := by
  have := sumN_le (f := fun _ => 0) n h
  rw [sumN_zero n fun _ _ => rfl] at this
  exact this
theorem sumN_split (f : Nat → Int) (m : Nat) : ∀ n, sumN f (m + n) = sumN f m + sumN (fun i => f (m + i)) n
  | 0 => by
    show sumN f m = sumN f m + 0
    omega
  | n + 1 => by
    show sumN f (m + n) + f (m + n) = sumN f m + (sumN (fun i => f (m + i)) n + f (m + n))
    rw [sumN_split f m n]
    omega
theorem sumN_grow {f : Nat → Int} {m n : Nat} (hmn : m ≤ n) (h : ∀ k, k < n → 0 ≤ f k) : sumN f m ≤ sumN f n := by
  have e := sumN_split f m (n - m)
  rw [show m + (n - m) = n by omega] at e
  have := sumN_nonneg (f := fun i => f (m + i)) (n - m) fun k hk => h _ (by omega)
  omega
theorem sumN_one {L : Nat → Int} {b : Nat} : ∀ n, b < n → sumN (fun x => if x = b then L x else 0) n = L b
  | 0, h => by omega
  | n + 1, h => by
    show sumN (fun x => if x = b then L x else 0) n + (if n = b then L n else 0) = L b
    by_cases e : n = b
    · subst e
      rw [if_pos rfl, sumN_zero n fun k hk => if_neg (by omega)]
      omega
    · rw [if_neg e, sumN_one n (by omega)]
      omega
theorem segP_of {w : Nat → Option Int} {q : Nat → Int} {f : Nat} : ∀ n, (∀ i, i < n → w (f + i) = some (q (f + i))) → segP w f n = some (sumN (fun i => q (f + i)) n)
  | 0, _ => rfl
  | n + 1, h => segP_add (segP_of n fun i hi => h i (by omega)) (h n (by omega))
theorem exists_least {P : Nat → Prop} (h : ∃ n, P n) : ∃ n, P n ∧ ∀ m, m < n → ¬ P m := by
  obtain ⟨n, hn⟩ := h
  induction n using Nat.strongRecOn with
  | ind n ih =>
    by_cases h : ∃ m, m < n ∧ P m
    · obtain ⟨m, hm, pm⟩ := h
      exact ih m hm pm
    · exact ⟨n, hn, fun m hm pm => h ⟨m, hm, pm⟩⟩
theorem exists_last {P : Nat → Prop} {n : Nat} (h : ∃ k, k < n ∧ P k) : ∃ k, k < n ∧ P k ∧ ∀ m, k < m → m < n → ¬ P m := by
  induction n with
  | zero =>
    obtain ⟨k, hk, _⟩ := h
    omega
  | succ n ih =>
    by_cases hn : P n
    · exact ⟨n, by omega, hn, fun m h1 h2 => by omega⟩
    · obtain ⟨k, hk, pk⟩ := h
      have : k < n := by
        by_cases e : k = n
        · subst e; exact absurd pk hn
        · omega
      obtain ⟨k', h1, h2, h3⟩ := ih ⟨k, this, pk⟩
      refine ⟨k', by omega, h2, fun m m1 m2 => ?_⟩
      by_cases e : m = n
      · subst e; exact hn
      · exact h3 m m1 (by omega)
/-! ### what a set of lit days costs -/
def wantN (g : Good) (k : Nat) : Int := match g.days[k]? with
  | none => 0
  | some d => d.want
structure MinP (g : Good) (S : Nat → Prop) (n k : Nat) (z : Int) : Prop where
  ex : ∃ b, b < n ∧ S b ∧ loafP g b k = some z
  le : ∀ b, b < n → S b → ∀ y, loafP g b k = some y → z ≤ y
open Classical in
noncomputable def litSum (lights : Nat → Int) (S : Nat → Prop) (n : Nat) : Int := sumN (fun b => if S b then lights b else 0) n
structure SetC (g : Good) (lights : Nat → Int) (S : Nat → Prop) (n : Nat) (p : Nat → Int) (c : Int) : Prop where
  min : ∀ k, k < n → wantN g k ≠ 0 → MinP g S n k (p k)
  cost : c = litSum lights S n + sumN (fun k => wantN g k * p k) n
theorem wantP_of {g : Good} {b k : Nat} {z : Int} (hk : k < g.days.length) (h : wantN g k ≠ 0 → loafP g b k = some z) : wantP g b k = some (wantN g k * z) := by
  have hd : g.days[k]? = some g.days[k] := List.getElem?_eq_getElem hk
  unfold wantN at h ⊢
  unfold wantP
  rw [hd] at h ⊢
  dsimp only at h ⊢
  by_cases e : g.days[k].want = 0
  · rw [if_pos e, e, Int.zero_mul]
  · rw [if_neg e, h e]
    rfl
theorem wantN_nonneg {g : Good} (N : NonNegW g.days) (k : Nat) : 0 ≤ wantN g k := by
  unfold wantN
  cases hd : g.days[k]? with
  | none => exact Int.le_refl 0
  | some d => exact N.want d (List.mem_of_getElem? hd)
theorem wantN_zero {g : Good} {k : Nat} (hk : k < g.days.length) (h : wantN g k = 0) : ∃ d, g.days[k]? = some d ∧ d.want = 0 := by
  have hd : g.days[k]? = some g.days[k] := List.getElem?_eq_getElem hk
  refine ⟨_, hd, ?_⟩
  unfold wantN at h
  rw [hd] at h
  exact h
/-- the first day of the set on which day k's loaves cost p -/
structure Sm (g : Good) (S : Nat → Prop) (n : Nat) (p : Nat → Int) (k b : Nat) : Prop where
  lt : b < n
  mem : S b
  at_ : loafP g b k = some (p k)
  first : ∀ b', b' < b → S b' → loafP g b' k ≠ some (p k)
theorem sm_ex {g : Good} {S : Nat → Prop} {n : Nat} {p : Nat → Int} {k : Nat} (h : MinP g S n k (p k)) : ∃ b, Sm g S n p k b := by
  obtain ⟨b, ⟨h1, h2, h3⟩, h4⟩ := exists_least h.ex
  exact ⟨b, h1, h2, h3, fun b' hb' hs e => h4 b' hb' ⟨by omega, hs, e⟩⟩
theorem sm_uniq {g : Good} {S : Nat → Prop} {n : Nat} {p : Nat → Int} {k b b' : Nat} (h : Sm g S n p k b) (h' : Sm g S n p k b') : b = b' := by
  by_cases e : b < b'
  · exact absurd h.at_ (h'.first b e h.mem)
  · by_cases e' : b' < b
    · exact absurd h'.at_ (h.first b' e' h'.mem)
    · omega
theorem sm_mono {g : Good} (N : NonNeg g.days) {S : Nat → Prop} {n : Nat} {p : Nat → Int} (hn : n ≤ g.days.length) {k k' b b' : Nat} (hk : k < k') (mk : MinP g S n k (p k)) (mk' : MinP g S n k' (p k')) (h : Sm g S n p k b) (h' : Sm g S n p k' b') : b ≤ b' := by
  by_cases e : b ≤ b'
  · exact e
  · exfalso
    have hb := h.lt
    obtain ⟨z, t, h1, h2, h3⟩ := loaf_cross N (show b' < b by omega) hk (by omega) h'.at_ h.at_
    have a1 := mk'.le b h.lt h.mem t h2
    have a2 := mk.le b' h'.lt h'.mem z h1
    exact h.first b' (by omega) h'.mem (by rw [h1, show z = p k by omega])
theorem finesL_join {ds : List Day} {i j k : Nat} {x y : Int} (h1 : i ≤ j) (h2 : j ≤ k) (a : finesL ds i j = some x) (b : finesL ds j k = some y) : finesL ds i k = some (x + y) := by
  unfold finesL at a b ⊢
  rw [seg_split ds h1 h2, List.map_append]
  exact sumO_join' a b
theorem loafP_ext' {g : Good} {j k : Nat} {d : Day} {z : Int} (hd : g.days[j]? = some d) (h : loafP g j k = some z) : ∃ e, extP g j k = some e ∧ d.loaf + e = z := by
  rw [loafP_ext hd] at h
  cases he : extP g j k with
  | none => rw [he] at h; cases h
  | some e =>
    rw [he] at h
    exact ⟨e, rfl, Option.some.inj h⟩
/-- who waits for a day takes all wants up to that day along -/
theorem sm_wait {g : Good} (N : NonNeg g.days) (hl : ∀ l, g.life = some l → 0 ≤ l) {S : Nat → Prop} {n : Nat} {p : Nat → Int} (hn : n ≤ g.days.length) {k k' b b' : Nat} (hk : k < k') (hb : k' ≤ b) (mk : MinP g S n k (p k)) (mk' : MinP g S n k' (p k')) (h : Sm g S n p k b) (h' : Sm g S n p k' b') : b' = b := by
  have hle := sm_mono N hn hk mk mk' h h'
  by_cases e : b' = b
  · exact e
  · exfalso
    have hlt : b < b' := by omega
    have l1 := h.lt
    have l2 := h'.lt
    have db : g.days[b]? = some (g.days[b]'(by omega)) := List.getElem?_eq_getElem (by omega)
    have db' : g.days[b']? = some (g.days[b']'(by omega)) := List.getElem?_eq_getElem (by omega)
    generalize g.days[b]'(by omega) = d at db
    generalize g.days[b']'(by omega) = d' at db'
    obtain ⟨x, hx, ex⟩ := loafP_ext' db h.at_
    obtain ⟨y, hy, ey⟩ := loafP_ext' db' h'.at_
    have fx := (ext_fine (show k < b by omega)).mp hx
    have fy := (ext_fine (show k' < b' by omega)).mp hy
    obtain ⟨y1, y2, f1, f2, e12⟩ := finesL_split hb (show b ≤ b' by omega) fy
    have fj := finesL_join (show k ≤ b by omega) (show b ≤ b' by omega) fx f2
    have pj : loafP g b' k = some (d'.loaf + (x + y2)) := by
      rw [loafP_ext db', (ext_fine (show k < b' by omega)).mpr fj]
      rfl
    have a1 := mk.le b' h'.lt h'.mem _ pj
    have pk : loafP g b k' = some (d.loaf + y1) := by
      by_cases ekb : k' < b
      · rw [loafP_ext db, (ext_fine ekb).mpr f1]
        rfl
      · have ekb : k' = b := by omega
        subst ekb
        have z1 : y1 = 0 := by
          unfold finesL at f1
          rw [Nat.sub_self] at f1
          exact (Option.some.inj f1).symm
        have z2 : keepsL g.days k' k' = 0 := by
          unfold keepsL
          rw [Nat.sub_self]
          rfl
        rw [loafP_ext db, (ext_keep (Nat.le_refl k')).mpr ⟨fun l el => by have := hl l el; omega, z2⟩, z1]
        rfl
    have a2 := mk'.le b h.lt h.mem _ pk
    exact h'.first b hlt h.mem (by rw [pk]; congr 1; omega)
open Classical in
/-- no set of lit days costs less than the row tells -/
theorem row_le_set {g : Good} {lights row : Nat → Int} {M : Nat} (h : IsRow g lights row M) (hM : M ≤ g.days.length) (hl : ∀ b, 0 ≤ lights b) (N : NonNegW g.days) (hlf : ∀ l, g.life = some l → 0 ≤ l) : ∀ n, n ≤ M → ∀ (S : Nat → Prop) (p : Nat → Int) (c : Int), SetC g lights S n p c → row n ≤ c := by
  intro n
  induction n using Nat.strongRecOn with
  | ind n ih =>
    intro hn S p c hc
    have ls0 : ∀ (S : Nat → Prop) m, 0 ≤ litSum lights S m := fun S m => sumN_nonneg m fun k _ => by
      show 0 ≤ (if S k then lights k else 0)
      split
      · exact hl k
      · exact Int.le_refl 0
    by_cases hw : ∃ k, k < n ∧ wantN g k ≠ 0
    · obtain ⟨kl, hkl, wkl, lastk⟩ := exists_last hw
      obtain ⟨bs, hbs⟩ := sm_ex (hc.min kl hkl wkl)
      obtain ⟨f, ⟨hf1, hf2, hf3⟩, hf4⟩ := exists_least (P := fun k => k < n ∧ wantN g k ≠ 0 ∧ Sm g S n p k bs) ⟨kl, hkl, wkl, hbs⟩
      have hfk : f ≤ kl := by
        by_cases e : f ≤ kl
        · exact e
        · exact absurd ⟨hkl, wkl, hbs⟩ (hf4 kl (by omega))
      have hbn := hbs.lt
      have lo : ∀ k, k < f → wantN g k ≠ 0 → ∃ b, Sm g S n p k b ∧ b < f ∧ b < bs := by
        intro k hk wk
        obtain ⟨b, hb⟩ := sm_ex (hc.min k (by omega) wk)
        have h1 := sm_mono N.nn (by omega) hk (hc.min k (by omega) wk) (hc.min f hf1 hf2) hb hf3
        have h2 : b ≠ bs := fun e => hf4 k hk ⟨by omega, wk, e ▸ hb⟩
        refine ⟨b, hb, ?_, by omega⟩
        by_cases e : b < f
        · exact e
        · exact absurd (sm_wait N.nn hlf (by omega) hk (by omega) (hc.min k (by omega) wk) (hc.min f hf1 hf2) hb hf3).symm h2
      have hi : ∀ k, f ≤ k → k < n → wantN g k ≠ 0 → loafP g bs k = some (p k) := by
        intro k hk hkn wk
        have hkkl : k ≤ kl := by
          by_cases e : k ≤ kl
          · exact e
          · exact absurd wk (lastk k (by omega) hkn)
        obtain ⟨b, hb⟩ := sm_ex (hc.min k hkn wk)
        have h1 : bs ≤ b := by
          by_cases e : f = k
          · subst e
            exact Nat.le_of_eq (sm_uniq hf3 hb)
          · exact sm_mono N.nn (by omega) (show f < k by omega) (hc.min f hf1 hf2) (hc.min k hkn wk) hf3 hb
        have h2 : b ≤ bs := by
          by_cases e : k = kl
          · subst e
            exact Nat.le_of_eq (sm_uniq hb hbs)
          · exact sm_mono N.nn (by omega) (show k < kl by omega) (hc.min k hkn wk) (hc.min kl hkl wkl) hb hbs
        have : b = bs := by omega
        subst this
        exact hb.at_
      -- the days ahead of the stretch
      have low : row f ≤ litSum lights (fun b => S b ∧ b < f ∧ b < bs) f + sumN (fun k => wantN g k * p k) f := by
        refine ih f hf1 (by omega) (fun b => S b ∧ b < f ∧ b < bs) p _ ⟨fun k hk wk => ?_, rfl⟩
        obtain ⟨b, hb, h1, h2⟩ := lo k hk wk
        exact ⟨⟨b, h1, ⟨hb.mem, h1, h2⟩, hb.at_⟩, fun b' hb' hs y hy => (hc.min k (by omega) wk).le b' (by omega) hs.1 y hy⟩
      -- the stretch
      have seg : segP (wantP g bs) f (n - f) = some (sumN (fun i => wantN g (f + i) * p (f + i)) (n - f)) := segP_of (q := fun k => wantN g k * p k) (n - f) fun i hi' => wantP_of (by omega) fun wk => hi (f + i) (by omega) (by omega) wk
      have least := h.least (n - 1) (by omega) _ (.inl ⟨bs, f, _, by omega, by omega, by rw [show n - 1 + 1 - f = n - f by omega]; exact seg, rfl⟩)
      rw [show n - 1 + 1 = n by omega] at least
      have spl := sumN_split (fun k => wantN g k * p k) f (n - f)
      rw [show f + (n - f) = n by omega] at spl
      -- the lights
      have lit : litSum lights (fun b => S b ∧ b < f ∧ b < bs) f + lights bs ≤ litSum lights S n := by
        have g1 : litSum lights (fun b => S b ∧ b < f ∧ b < bs) f ≤ litSum lights (fun b => S b ∧ b < f ∧ b < bs) n := sumN_grow (by omega) fun k _ => by
          dsimp only
          split
          · exact hl k
          · exact Int.le_refl 0
        have g2 := sumN_one (L := lights) n hbn
        have g3 : litSum lights (fun b => S b ∧ b < f ∧ b < bs) n + sumN (fun x => if x = bs then lights x else 0) n ≤ litSum lights S n := by
          unfold litSum
          rw [← sumN_add]
          refine sumN_le n fun k hk => ?_
          have lk := hl k
          by_cases e : k = bs
          · subst e
            rw [if_neg (fun z => by omega), if_pos rfl, if_pos hbs.mem]
            omega
          · rw [if_neg e]
            by_cases e2 : S k ∧ k < f ∧ k < bs
            · rw [if_pos e2, if_pos e2.1]
              omega
            · rw [if_neg e2]
              split <;> omega
        omega
      have cc := hc.cost
      omega
    · have z : ∀ k, k < n → wantN g k = 0 := fun k hk => Decidable.not_not.mp fun e => hw ⟨k, hk, e⟩
      have a := row_flat h (f := 0) n (by omega) hn fun k _ hk => wantN_zero (by omega) (z k hk)
      rw [h.zero] at a
      have b := hc.cost
      rw [sumN_zero n fun k hk => by rw [z k hk, Int.zero_mul]] at b
      have := ls0 S n
      omega
open Classical in
theorem exists_min {g : Good} {S : Nat → Prop} {k : Nat} : ∀ n, (∃ b z, b < n ∧ S b ∧ loafP g b k = some z) → ∃ z, MinP g S n k z
  | 0, h => by
    obtain ⟨b, z, hb, _⟩ := h
    omega
  | n + 1, h => by
    by_cases h0 : ∃ b z, b < n ∧ S b ∧ loafP g b k = some z
    · obtain ⟨z, ⟨b, hb, hs, hz⟩, hle⟩ := exists_min n h0
      by_cases hn : S n ∧ ∃ y, loafP g n k = some y ∧ y < z
      · obtain ⟨sn, y, hy, hyz⟩ := hn
        refine ⟨y, ⟨n, by omega, sn, hy⟩, fun b' hb' hs' y' hy' => ?_⟩
        by_cases e : b' = n
        · subst e
          rw [hy] at hy'
          have := Option.some.inj hy'
          omega
        · have := hle b' (by omega) hs' y' hy'
          omega
      · refine ⟨z, ⟨b, by omega, hs, hz⟩, fun b' hb' hs' y' hy' => ?_⟩
        by_cases e : b' = n
        · subst e
          by_cases hh : z ≤ y'
          · exact hh
          · exact absurd ⟨hs', y', hy', by omega⟩ hn
        · exact hle b' (by omega) hs' y' hy'
    · obtain ⟨b, z, hb, hs, hz⟩ := h
      have e : b = n := by
        by_cases e : b = n
        · exact e
        · exact absurd ⟨b, z, by omega, hs, hz⟩ h0
      subst e
      refine ⟨z, ⟨b, by omega, hs, hz⟩, fun b' hb' hs' y' hy' => ?_⟩
      by_cases e : b' = b
      · subst e
        rw [hz] at hy'
        have := Option.some.inj hy'
        omega
      · exact absurd ⟨b', y', by omega, hs', hy'⟩ h0
theorem wantP_inv {g : Good} {b k : Nat} {z : Int} (h : wantP g b k = some z) : (wantN g k = 0 ∧ z = 0) ∨ ∃ y, loafP g b k = some y ∧ z = wantN g k * y := by
  unfold wantP at h
  unfold wantN
  cases hd : g.days[k]? with
  | none => rw [hd] at h; cases h
  | some d =>
    rw [hd] at h
    dsimp only at h ⊢
    split at h
    · exact .inl ⟨by assumption, (Option.some.inj h).symm⟩
    · cases hp : loafP g b k with
      | none => rw [hp] at h; cases h
      | some y =>
        rw [hp] at h
        exact .inr ⟨y, rfl, (Option.some.inj h).symm⟩
theorem segP_sum {w : Nat → Option Int} {f : Nat} : ∀ {n : Nat} {s : Int}, segP w f n = some s → ∃ q : Nat → Int, (∀ i, i < n → w (f + i) = some (q (f + i))) ∧ s = sumN (fun i => q (f + i)) n
  | 0, s, h => ⟨fun _ => 0, fun i hi => by omega, (Option.some.inj h).symm⟩
  | n + 1, s, h => by
    obtain ⟨x, y, h1, h2, h3⟩ := segP_succ h
    obtain ⟨q, q1, q2⟩ := segP_sum h1
    refine ⟨fun k => if k = f + n then y else q k, fun i hi => ?_, ?_⟩
    · dsimp only
      by_cases e : i = n
      · subst e
        rw [if_pos rfl]
        exact h2
      · rw [if_neg (by omega)]
        exact q1 i (by omega)
    · show s = sumN (fun i => if f + i = f + n then y else q (f + i)) n + (if f + n = f + n then y else q (f + n))
      rw [if_pos rfl, sumN_congr (f' := fun i => q (f + i)) n fun i hi => if_neg (by omega), ← q2]
      exact h3
open Classical in
/-- some set of lit days costs no more than the row tells -/
theorem set_of_row {g : Good} {lights row : Nat → Int} {M : Nat} (h : IsRow g lights row M) (hM : M ≤ g.days.length) (hl : ∀ b, 0 ≤ lights b) (N : NonNegW g.days) : ∀ n, n ≤ M → ∃ (S : Nat → Prop) (p : Nat → Int) (c : Int), SetC g lights S n p c ∧ c ≤ row n := by
  intro n
  induction n using Nat.strongRecOn with
  | ind n ih =>
    intro hn
    cases n with
    | zero => exact ⟨fun _ => False, fun _ => 0, 0, ⟨fun k hk => by omega, rfl⟩, by rw [h.zero]; exact Int.le_refl 0⟩
    | succ m =>
      rcases h.some m (by omega) with ⟨b, f, s, hb, hf, hs, hv⟩ | ⟨⟨d, hd, hw⟩, hv⟩
      · obtain ⟨S, p, c, hc, hle⟩ := ih f (by omega) (by omega)
        obtain ⟨q, q1, q2⟩ := segP_sum hs
        let S' : Nat → Prop := fun x => (x < f ∧ S x) ∨ x = b
        have ex : ∀ k, ∃ z, k < m + 1 → wantN g k ≠ 0 → MinP g S' (m + 1) k z := by
          intro k
          by_cases hk : k < m + 1 ∧ wantN g k ≠ 0
          · have : ∃ z, MinP g S' (m + 1) k z := exists_min (m + 1) (by
              by_cases hkf : k < f
              · obtain ⟨b', h1, h2, h3⟩ := (hc.min k hkf hk.2).ex
                exact ⟨b', _, by omega, .inl ⟨h1, h2⟩, h3⟩
              · have e := q1 (k - f) (by omega)
                rw [show f + (k - f) = k by omega] at e
                rcases wantP_inv e with ⟨e1, _⟩ | ⟨y, e1, _⟩
                · exact absurd e1 hk.2
                · exact ⟨b, y, by omega, .inr rfl, e1⟩)
            obtain ⟨z, hz⟩ := this
            exact ⟨z, fun _ _ => hz⟩
          · exact ⟨0, fun h1 h2 => absurd ⟨h1, h2⟩ hk⟩
        let p' : Nat → Int := fun k => choose (ex k)
        have hp' : ∀ k, k < m + 1 → wantN g k ≠ 0 → MinP g S' (m + 1) k (p' k) := fun k => choose_spec (ex k)
        refine ⟨S', p', _, ⟨hp', rfl⟩, ?_⟩
        have spl := sumN_split (fun k => wantN g k * p' k) f (m + 1 - f)
        rw [show f + (m + 1 - f) = m + 1 by omega] at spl
        have w1 : sumN (fun k => wantN g k * p' k) f ≤ sumN (fun k => wantN g k * p k) f := sumN_le f fun k hk => by
          by_cases e : wantN g k = 0
          · rw [e, Int.zero_mul, Int.zero_mul]
            exact Int.le_refl 0
          · obtain ⟨b', h1, h2, h3⟩ := (hc.min k hk e).ex
            exact Int.mul_le_mul_of_nonneg_left ((hp' k (by omega) e).le b' (by omega) (.inl ⟨h1, h2⟩) _ h3) (wantN_nonneg N k)
        have w2 : sumN (fun i => wantN g (f + i) * p' (f + i)) (m + 1 - f) ≤ s := by
          rw [q2]
          refine sumN_le _ fun i hi => ?_
          have e := q1 i hi
          by_cases ew : wantN g (f + i) = 0
          · have := wantP_nonneg N e
            rw [ew, Int.zero_mul]
            exact this
          · rcases wantP_inv e with ⟨e1, _⟩ | ⟨y, e1, e2⟩
            · exact absurd e1 ew
            · rw [e2]
              exact Int.mul_le_mul_of_nonneg_left ((hp' (f + i) (by omega) ew).le b (by omega) (.inr rfl) _ e1) (wantN_nonneg N _)
        have l1 : litSum lights S' (m + 1) ≤ litSum lights S f + lights b := by
          have e1 : litSum lights S f = litSum lights (fun x => x < f ∧ S x) (m + 1) := by
            have e := sumN_split (fun x => if x < f ∧ S x then lights x else 0) f (m + 1 - f)
            rw [show f + (m + 1 - f) = m + 1 by omega, sumN_zero (f := fun i => if f + i < f ∧ S (f + i) then lights (f + i) else 0) _ fun i _ => if_neg fun z => by omega] at e
            unfold litSum
            rw [sumN_congr (f' := fun x => if x < f ∧ S x then lights x else 0) f fun k hk => by
              by_cases e : S k
              · rw [if_pos e, if_pos ⟨hk, e⟩]
              · rw [if_neg e, if_neg fun z => e z.2]]
            have e2 : ∀ A : Int, A + 0 = A := Int.add_zero
            rw [e2] at e
            rw [← e]
            refine sumN_congr _ fun k _ => ?_
            by_cases e : k < f ∧ S k
            · rw [if_pos e, if_pos e]
            · rw [if_neg e, if_neg e]
          have e2 := sumN_one (L := lights) (m + 1) (show b < m + 1 by omega)
          rw [e1, ← e2]
          unfold litSum
          rw [← sumN_add]
          refine sumN_le _ fun k hk => ?_
          have lk := hl k
          dsimp only
          by_cases e3 : k = b
          · rw [if_pos (show S' k from .inr e3), if_pos e3]
            split <;> omega
          · by_cases e4 : k < f ∧ S k
            · rw [if_pos (show S' k from .inl e4), if_pos e4, if_neg e3]
              omega
            · rw [if_neg (show ¬ S' k from fun z => z.elim e4 e3), if_neg e4, if_neg e3]
              omega
        have cc := hc.cost
        omega
      · obtain ⟨S, p, c, hc, hle⟩ := ih m (by omega) (by omega)
        have ew : wantN g m = 0 := by
          unfold wantN
          rw [hd]
          exact hw
        refine ⟨fun x => x < m ∧ S x, p, c, ⟨fun k hk wk => ?_, ?_⟩, by rw [hv]; exact hle⟩
        · have hkm : k < m := by
            by_cases e : k = m
            · subst e; exact absurd ew wk
            · omega
          have mk := hc.min k hkm wk
          obtain ⟨b, h1, h2, h3⟩ := mk.ex
          exact ⟨⟨b, by omega, ⟨h1, h2⟩, h3⟩, fun b' hb' hs y hy => mk.le b' hs.1 hs.2 y hy⟩
        · have e1 : litSum lights (fun x => x < m ∧ S x) (m + 1) = litSum lights S m := by
            have e0 : litSum lights (fun x => x < m ∧ S x) (m + 1) = litSum lights (fun x => x < m ∧ S x) m + 0 := by
              refine congrArg (litSum lights (fun x => x < m ∧ S x) m + ·) ?_
              exact if_neg fun z => absurd z.1 (by omega)
            rw [e0, Int.add_zero]
            refine sumN_congr _ fun k hk => ?_
            dsimp only
            by_cases e : S k
            · rw [if_pos e, if_pos ⟨hk, e⟩]
            · rw [if_neg e, if_neg fun z => e z.2]
          rw [e1, hc.cost]
          show _ = litSum lights S m + (sumN (fun k => wantN g k * p k) m + wantN g m * p m)
          rw [ew, Int.zero_mul, Int.add_zero]
end Bk

namespace Bk
open PySem PySem.Spec PyProof.Rows L2
def rShr : R2 := fun x y H Q => ∃ (i : Int) (k : Nat), x = .int i ∧ y = .int (k : Int) ∧ Q (.int (i / 2 ^ k)) H
def rOdd : R2 := fun x y H Q => ∃ n : Nat, x = .int (n : Int) ∧ y = .int 1 ∧ Q (.int ((n % 2 : Nat) : Int)) H
theorem rShr_i {i j : Int} {H : Hp} {Q : VK} : rShr (.int i) (.int j) H Q = ∃ k : Nat, j = (k : Int) ∧ Q (.int (i / 2 ^ k)) H := propext ⟨fun ⟨_, k, e1, e2, h⟩ => by cases e1; cases e2; exact ⟨k, rfl, h⟩, fun ⟨k, e, h⟩ => ⟨i, k, rfl, by rw [e], h⟩⟩
theorem rOdd_i {i : Int} {H : Hp} {Q : VK} : rOdd (.int i) (.int 1) H Q = ∃ n : Nat, i = (n : Int) ∧ Q (.int ((n % 2 : Nat) : Int)) H := propext ⟨fun ⟨n, e1, e2, h⟩ => by cases e1; exact ⟨n, rfl, h⟩, fun ⟨n, e, h⟩ => ⟨n, by rw [e], rfl, h⟩⟩
def litL (S : Nat → Bool) (n : Nat) : List Nat := (List.range n).filter S
def inS (S : Nat → Bool) (b : Nat) : Prop := S b = true
def bitS (num b : Nat) : Bool := decide (num / 2 ^ b % 2 = 1)
theorem bits_ex : ∀ (n : Nat) (S : Nat → Prop), ∃ num, num < 2 ^ n ∧ ∀ b, b < n → (inS (bitS num) b ↔ S b)
  | 0, S => ⟨0, by decide, fun b hb => by omega⟩
  | n + 1, S => by
    obtain ⟨num, h1, h2⟩ := bits_ex n fun b => S (b + 1)
    have key : ∀ e : Nat, e < 2 → ∀ b, inS (bitS (e + 2 * num)) b ↔ (b = 0 ∧ e = 1) ∨ (0 < b ∧ inS (bitS num) (b - 1)) := by
      intro e he b
      unfold inS bitS
      simp only [decide_eq_true_eq]
      cases b with
      | zero =>
        rw [Nat.pow_zero, Nat.div_one]
        omega
      | succ b =>
        rw [show 2 ^ (b + 1) = 2 * 2 ^ b by rw [Nat.pow_succ, Nat.mul_comm], ← Nat.div_div_eq_div_mul, show (e + 2 * num) / 2 = num by omega, Nat.add_sub_cancel]
        constructor
        · intro h
          exact .inr ⟨Nat.succ_pos _, h⟩
        · rintro (⟨h, _⟩ | ⟨_, h⟩)
          · exact absurd h (Nat.succ_ne_zero _)
          · exact h
    by_cases h0 : S 0
    · refine ⟨1 + 2 * num, by rw [Nat.pow_succ]; omega, fun b hb => ?_⟩
      rw [key 1 (by decide)]
      cases b with
      | zero => exact ⟨fun _ => h0, fun _ => .inl ⟨rfl, rfl⟩⟩
      | succ b =>
        rw [Nat.add_sub_cancel, ← h2 b (by omega)]
        constructor
        · rintro (⟨h, _⟩ | ⟨_, h⟩)
          · exact absurd h (Nat.succ_ne_zero _)
          · exact h
        · intro h
          exact .inr ⟨Nat.succ_pos _, h⟩
    · refine ⟨0 + 2 * num, by rw [Nat.pow_succ]; omega, fun b hb => ?_⟩
      rw [key 0 (by decide)]
      cases b with
      | zero =>
        constructor
        · rintro (⟨_, h⟩ | ⟨h, _⟩)
          · exact absurd h (by decide)
          · exact absurd h (by decide)
        · intro h
          exact absurd h h0
      | succ b =>
        rw [Nat.add_sub_cancel, ← h2 b (by omega)]
        constructor
        · rintro (⟨h, _⟩ | ⟨_, h⟩)
          · exact absurd h (Nat.succ_ne_zero _)
          · exact h
        · intro h
          exact .inr ⟨Nat.succ_pos _, h⟩
theorem setC_congr {g : Good} {lights : Nat → Int} {S S' : Nat → Prop} {n : Nat} {p : Nat → Int} {c : Int} (e : ∀ b, b < n → (S b ↔ S' b)) (h : SetC g lights S n p c) : SetC g lights S' n p c := by
  refine ⟨fun k hk wk => ?_, ?_⟩
  · have m := h.min k hk wk
    obtain ⟨b, h1, h2, h3⟩ := m.ex
    exact ⟨⟨b, h1, (e b h1).mp h2, h3⟩, fun b' hb' hs y hy => m.le b' hb' ((e b' hb').mpr hs) y hy⟩
  · rw [h.cost]
    congr 1
    unfold litSum
    refine sumN_congr n fun b hb => ?_
    by_cases h1 : S b
    · rw [if_pos h1, if_pos ((e b hb).mp h1)]
    · rw [if_neg h1, if_neg fun z => h1 ((e b hb).mpr z)]
/-- what the best of the first so many sets is -/
structure Best (g : Good) (lights : Nat → Int) (n i : Nat) (o : Option Int) : Prop where
  from_ : ∀ c, o = some c → ∃ S p, SetC g lights S n p c
  upto : ∀ num, num < i → num < 2 ^ n → ∀ p c, SetC g lights (inS (bitS num)) n p c → ∃ c0, o = some c0 ∧ c0 ≤ c
theorem Best.done {g : Good} {lights row : Nat → Int} {n i M : Nat} {o : Option Int} (h : Best g lights n i o) (hi : 2 ^ n ≤ i) (hR : IsRow g lights row M) (hn : n ≤ M) (hM : M ≤ g.days.length) (hl : ∀ b, 0 ≤ lights b) (N : NonNegW g.days) (hlf : ∀ l, g.life = some l → 0 ≤ l) : o = some (row n) := by
  obtain ⟨S, p, c, hc, hle⟩ := set_of_row hR hM hl N n hn
  obtain ⟨num, h1, h2⟩ := bits_ex n S
  obtain ⟨c0, rfl, hc0⟩ := h.upto num (by omega) h1 p c (setC_congr (fun b hb => (h2 b hb).symm) hc)
  obtain ⟨S', p', h'⟩ := h.from_ c0 rfl
  have := row_le_set hR hM hl N hlf n hn S' p' c0 h'
  congr 1
  omega
theorem rSetL_r {p : Addr} {k : Int} {v : V} {H : Hp} {Q : Hp → Prop} : rSetL (.ref p) (.int k) v H Q = ∃ xs j, H p = some (.lst xs) ∧ ixN xs.length k = some j ∧ Q (upd H p (.lst (xs.set j v))) := propext ⟨fun ⟨_, xs, _, j, e1, e2, h⟩ => by cases e1; cases e2; exact ⟨xs, j, h⟩, fun ⟨xs, j, h⟩ => ⟨p, xs, k, j, rfl, rfl, h⟩⟩
end Bk

namespace Bk
open PySem PySem.Spec PyProof.Rows L2
/-! ### the row of least costs where wants may be baked on any of all days, and its steps as prices -/
structure IsAny (g : Good) (lights ar : Nat → Int) (c n : Nat) : Prop where
  zero : ar 0 = 0
  unw : ∀ m, m < n → wantN g m = 0 → ar (m + 1) = ar m
  some : ∀ m, m < n → wantN g m ≠ 0 → ChC ar lights (wantP g) c m (ar (m + 1))
  least : ∀ m, m < n → wantN g m ≠ 0 → ∀ v, ChC ar lights (wantP g) c m v → ar (m + 1) ≤ v
theorem wantN_at {g : Good} {k : Nat} {d : Day} (h : g.days[k]? = some d) : wantN g k = d.want := by
  unfold wantN
  rw [h]
theorem wantP_unw {g : Good} {b k : Nat} (hk : k < g.days.length) (h : wantN g k = 0) : wantP g b k = some 0 := by
  have e := wantP_of (g := g) (b := b) (k := k) (z := 0) hk fun z => absurd h z
  rw [e, h, Int.zero_mul]
theorem any_lets {g : Good} {lights ar : Nat → Int} {c n : Nat} (h : IsAny g lights ar c n) (hn : n ≤ g.days.length) (hl : ∀ b, 0 ≤ lights b) {b f : Nat} (hb : b < c) : ∀ (m : Nat) (s : Int), f + m ≤ n → segP (wantP g b) f m = some s → ar (f + m) ≤ ar f + lights b + s
  | 0, s, _, hs => by
    rw [segP_zero] at hs
    have e := Option.some.inj hs
    have := hl b
    rw [Nat.add_zero]
    omega
  | m + 1, s, hm, hs => by
    by_cases hw : wantN g (f + m) = 0
    · obtain ⟨x, y, h1, h2, h3⟩ := segP_succ hs
      have ih := any_lets h hn hl hb m x (by omega) h1
      rw [wantP_unw (by omega) hw] at h2
      have e2 := Option.some.inj h2
      have e3 := h.unw (f + m) (by omega) hw
      rw [show f + (m + 1) = f + m + 1 by omega, e3]
      omega
    · exact h.least (f + m) (by omega) hw _ ⟨b, f, s, hb, by omega, by rw [show f + m + 1 - f = m + 1 by omega]; exact hs, rfl⟩
theorem any_le_row {g : Good} {lights ar row : Nat → Int} {c n : Nat} (h : IsAny g lights ar c n) (hr : IsRow g lights row n) (hc : n ≤ c) (hn : n ≤ g.days.length) (hl : ∀ b, 0 ≤ lights b) : ∀ m, m ≤ n → ar m ≤ row m := by
  intro m
  induction m using Nat.strongRecOn with
  | ind m ih =>
    intro hm
    cases m with
    | zero => rw [h.zero, hr.zero]; exact Int.le_refl 0
    | succ m =>
      rcases hr.some m (by omega) with ⟨b, f, s, hb, hf, hs, hv⟩ | ⟨⟨d, hd, hw⟩, hv⟩
      · have a := any_lets h hn hl (show b < c by omega) (m + 1 - f) s (by omega) hs
        rw [show f + (m + 1 - f) = m + 1 by omega] at a
        have := ih f (by omega) (by omega)
        omega
      · have e := h.unw m (by omega) ((wantN_at hd).trans hw)
        have := ih m (by omega) (by omega)
        omega
/-- lit days and prices of loaves by which the first m days' wants cost no more than v -/
structure Cov (g : Good) (lights : Nat → Int) (c m : Nat) (S : Nat → Prop) (p : Nat → Int) (v : Int) : Prop where
  ex : ∀ k, k < m → wantN g k ≠ 0 → ∃ b, b < c ∧ S b ∧ loafP g b k = some (p k)
  le : litSum lights S c + sumN (fun k => wantN g k * p k) m ≤ v
theorem litSum_add {lights : Nat → Int} (hl : ∀ b, 0 ≤ lights b) {S : Nat → Prop} {b c : Nat} (hb : b < c) : litSum lights (fun x => S x ∨ x = b) c ≤ litSum lights S c + lights b := by
  have e2 := sumN_one (L := lights) c hb
  rw [← e2]
  unfold litSum
  rw [← sumN_add]
  refine sumN_le _ fun k hk => ?_
  have lk := hl k
  dsimp only
  by_cases e3 : k = b
  · rw [if_pos (show S k ∨ k = b from .inr e3), if_pos e3]
    split <;> omega
  · by_cases e4 : S k
    · rw [if_pos (show S k ∨ k = b from .inl e4), if_pos e4, if_neg e3]
      omega
    · rw [if_neg (show ¬ (S k ∨ k = b) from fun z => z.elim e4 e3), if_neg e4, if_neg e3]
      omega
theorem any_cov {g : Good} {lights ar : Nat → Int} {c n : Nat} (h : IsAny g lights ar c n) (hl : ∀ b, 0 ≤ lights b) (N : NonNegW g.days) : ∀ m, m ≤ n → ∃ (S : Nat → Prop) (p : Nat → Int), Cov g lights c m S p (ar m) := by
  intro m
  induction m using Nat.strongRecOn with
  | ind m ih =>
    intro hm
    cases m with
    | zero =>
      refine ⟨fun _ => False, fun _ => 0, ⟨fun k hk => by omega, ?_⟩⟩
      rw [h.zero]
      have e : litSum lights (fun _ => False) c = 0 := by
        unfold litSum
        exact sumN_zero c fun k _ => if_neg id
      rw [e]
      exact Int.le_refl 0
    | succ m =>
      by_cases hw : wantN g m = 0
      · obtain ⟨S, p, hc⟩ := ih m (by omega) (by omega)
        refine ⟨S, p, ⟨fun k hk wk => hc.ex k ?_ wk, ?_⟩⟩
        · by_cases e : k = m
          · subst e; exact absurd hw wk
          · omega
        · have e := h.unw m (by omega) hw
          have le := hc.le
          show litSum lights S c + (sumN (fun k => wantN g k * p k) m + wantN g m * p m) ≤ _
          rw [hw, Int.zero_mul, Int.add_zero, e]
          exact le
      · obtain ⟨b, f, s, hb, hf, hs, hv⟩ := h.some m (by omega) hw
        obtain ⟨S, p, hc⟩ := ih f (by omega) (by omega)
        obtain ⟨q, q1, q2⟩ := segP_sum hs
        have ey : ∀ k, ∃ y : Int, f ≤ k → k < m + 1 → wantN g k ≠ 0 → loafP g b k = some y ∧ q k = wantN g k * y := by
          intro k
          by_cases hk : f ≤ k ∧ k < m + 1 ∧ wantN g k ≠ 0
          · have e := q1 (k - f) (by omega)
            rw [show f + (k - f) = k by omega] at e
            rcases wantP_inv e with ⟨e1, _⟩ | ⟨y, e1, e2⟩
            · exact absurd e1 hk.2.2
            · exact ⟨y, fun _ _ _ => ⟨e1, e2⟩⟩
          · exact ⟨0, fun h1 h2 h3 => absurd ⟨h1, h2, h3⟩ hk⟩
        let py : Nat → Int := fun k => Classical.choose (ey k)
        have hpy : ∀ k, f ≤ k → k < m + 1 → wantN g k ≠ 0 → loafP g b k = some (py k) ∧ q k = wantN g k * py k := fun k => Classical.choose_spec (ey k)
        refine ⟨fun x => S x ∨ x = b, fun k => if k < f then p k else py k, ⟨fun k hk wk => ?_, ?_⟩⟩
        · by_cases hkf : k < f
          · obtain ⟨b', h1, h2, h3⟩ := hc.ex k hkf wk
            exact ⟨b', h1, .inl h2, by rw [if_pos hkf]; exact h3⟩
          · exact ⟨b, hb, .inr rfl, by rw [if_neg hkf]; exact (hpy k (by omega) hk wk).1⟩
        · have l1 := litSum_add hl (S := S) hb
          have spl := sumN_split (fun k => wantN g k * (if k < f then p k else py k)) f (m + 1 - f)
          rw [show f + (m + 1 - f) = m + 1 by omega] at spl
          have w1 : sumN (fun k => wantN g k * (if k < f then p k else py k)) f = sumN (fun k => wantN g k * p k) f := sumN_congr f fun k hk => by
            rw [if_pos hk]
          have w2 : sumN (fun i => wantN g (f + i) * (if f + i < f then p (f + i) else py (f + i))) (m + 1 - f) ≤ s := by
            rw [q2]
            refine sumN_le _ fun i hi => ?_
            rw [if_neg (by omega)]
            by_cases ew : wantN g (f + i) = 0
            · rw [ew, Int.zero_mul]
              exact wantP_nonneg N (q1 i hi)
            · rw [(hpy (f + i) (by omega) (by omega) ew).2]
              exact Int.le_refl _
          have le := hc.le
          omega
/-- a cover of all days costs no less than the row tells -/
theorem row_le_cov {g : Good} {lights row : Nat → Int} {n : Nat} (hr : IsRow g lights row n) (hn : n ≤ g.days.length) (hl : ∀ b, 0 ≤ lights b) (N : NonNegW g.days) (hlf : ∀ l, g.life = some l → 0 ≤ l) {S : Nat → Prop} {p : Nat → Int} {v : Int} (h : Cov g lights n n S p v) : row n ≤ v := by
  have ex : ∀ k, ∃ z, k < n → wantN g k ≠ 0 → MinP g S n k z := by
    intro k
    by_cases hk : k < n ∧ wantN g k ≠ 0
    · obtain ⟨b, h1, h2, h3⟩ := h.ex k hk.1 hk.2
      obtain ⟨z, hz⟩ := exists_min (g := g) (S := S) (k := k) n ⟨b, _, h1, h2, h3⟩
      exact ⟨z, fun _ _ => hz⟩
    · exact ⟨0, fun h1 h2 => absurd ⟨h1, h2⟩ hk⟩
  let p' : Nat → Int := fun k => Classical.choose (ex k)
  have hp' : ∀ k, k < n → wantN g k ≠ 0 → MinP g S n k (p' k) := fun k => Classical.choose_spec (ex k)
  have a := row_le_set hr hn hl N hlf n (Nat.le_refl n) S p' _ ⟨hp', rfl⟩
  have w : sumN (fun k => wantN g k * p' k) n ≤ sumN (fun k => wantN g k * p k) n := sumN_le n fun k hk => by
    by_cases e : wantN g k = 0
    · rw [e, Int.zero_mul, Int.zero_mul]
      exact Int.le_refl 0
    · obtain ⟨b, h1, h2, h3⟩ := h.ex k hk e
      exact Int.mul_le_mul_of_nonneg_left ((hp' k hk e).le b h1 h2 _ h3) (wantN_nonneg N k)
  have le := h.le
  omega
theorem any_eq_row {g : Good} {lights ar row : Nat → Int} {n : Nat} (h : IsAny g lights ar n n) (hr : IsRow g lights row n) (hn : n ≤ g.days.length) (hl : ∀ b, 0 ≤ lights b) (N : NonNegW g.days) (hlf : ∀ l, g.life = some l → 0 ≤ l) : ar n = row n := by
  have a := any_le_row h hr (Nat.le_refl n) hn hl n (Nat.le_refl n)
  obtain ⟨S, p, hc⟩ := any_cov h hl N n (Nat.le_refl n)
  have b := row_le_cov hr hn hl N hlf hc
  omega
/-! ### prices that are let by -/
/-- by the document's words: whatever day of baking, whatever stretch -/
def Lets (g : Good) (lights pr : Nat → Int) (n : Nat) : Prop := ∀ b f m s, b < n → f + m ≤ n → segP (wantP g b) f m = some s → sumN (fun i => pr (f + i)) m ≤ lights b + s
end Bk

namespace Bk
open PySem PySem.Spec PyProof.Rows L2
/-! ### lists of larger ints, shown -/
/-! ### the row anywhere, number by number -/
theorem ChC.congr {row row' lights : Nat → Int} {w : Nat → Nat → Option Int} {c m : Nat} {v : Int} (e : ∀ f, f ≤ m → row f = row' f) (h : ChC row lights w c m v) : ChC row' lights w c m v := by
  obtain ⟨b, f, s, hb, hf, hs, hv⟩ := h
  exact ⟨b, f, s, hb, hf, hs, by rw [← e f hf]; exact hv⟩
theorem IsAny.init (g : Good) (lights : Nat → Int) (c : Nat) : IsAny g lights (rowF [0]) c 0 := ⟨rfl, fun m h => by omega, fun m h => by omega, fun m h => by omega⟩
theorem IsAny.snoc {g : Good} {lights : Nat → Int} {rs : List Int} {c n : Nat} {v : Int} (h : IsAny g lights (rowF rs) c n) (hl : rs.length = n + 1) (h0 : wantN g n = 0 → v = rowF rs n) (h1 : wantN g n ≠ 0 → ChC (rowF rs) lights (wantP g) c n v ∧ ∀ u, ChC (rowF rs) lights (wantP g) c n u → v ≤ u) :
    IsAny g lights (rowF (rs ++ [v])) c (n + 1) := by
  have e : ∀ f, f ≤ n → rowF rs f = rowF (rs ++ [v]) f := fun f hf => (rowF_snoc (by omega)).symm
  have e' : ∀ f, f ≤ n → rowF (rs ++ [v]) f = rowF rs f := fun f hf => rowF_snoc (by omega)
  have el : rowF (rs ++ [v]) (n + 1) = v := rowF_last hl
  refine ⟨by rw [e' 0 (by omega)]; exact h.zero, fun m hm hw => ?_, fun m hm hw => ?_, fun m hm hw u hu => ?_⟩
  · by_cases hlt : m < n
    · rw [e' (m + 1) (by omega), e' m (by omega)]
      exact h.unw m hlt hw
    · have : m = n := by omega
      subst this
      rw [el, e' m (by omega)]
      exact h0 hw
  · by_cases hlt : m < n
    · rw [e' (m + 1) (by omega)]
      exact (h.some m hlt hw).congr fun f hf => e f (by omega)
    · have : m = n := by omega
      subst this
      rw [el]
      exact (h1 hw).1.congr e
  · by_cases hlt : m < n
    · rw [e' (m + 1) (by omega)]
      exact h.least m hlt hw u (hu.congr fun f hf => e' f (by omega))
    · have : m = n := by omega
      subst this
      rw [el]
      exact (h1 hw).2 u (hu.congr e')
theorem IsAny.ext {g : Good} {lights ar ar' : Nat → Int} {c n : Nat} (h : IsAny g lights ar c n) (h' : IsAny g lights ar' c n) : ∀ m, m ≤ n → ar m = ar' m := by
  intro m
  induction m using Nat.strongRecOn with
  | ind m ih =>
    intro hm
    cases m with
    | zero => rw [h.zero, h'.zero]
    | succ m =>
      by_cases hw : wantN g m = 0
      · rw [h.unw m (by omega) hw, h'.unw m (by omega) hw]
        exact ih m (by omega) (by omega)
      · have e : ∀ f, f ≤ m → ar f = ar' f := fun f hf => ih f (by omega) (by omega)
        have a := h.least m (by omega) hw _ ((h'.some m (by omega) hw).congr fun f hf => (e f hf).symm)
        have b := h'.least m (by omega) hw _ ((h.some m (by omega) hw).congr e)
        omega
/-- the steps of the row anywhere, as told prices -/
structure IsPrices (g : Good) (lights : Nat → Int) (ps : List Int) (n : Nat) : Prop where
  len : ps.length = n
  row : ∃ ar, IsAny g lights ar n n ∧ ∀ k, k < n → rowF ps k = ar (k + 1) - ar k
theorem IsPrices.ext {g : Good} {lights : Nat → Int} {ps ps' : List Int} {n : Nat} (h : IsPrices g lights ps n) (h' : IsPrices g lights ps' n) : ps = ps' := by
  obtain ⟨ar, h1, h2⟩ := h.row
  obtain ⟨ar', h3, h4⟩ := h'.row
  have e := h1.ext h3
  apply List.ext_getElem
  · rw [h.len, h'.len]
  · intro i hi hi'
    have a := h2 i (by rw [← h.len]; exact hi)
    have b := h4 i (by rw [← h.len]; exact hi)
    rw [e (i + 1) (by have := h.len; omega), e i (by have := h.len; omega)] at a
    unfold rowF at a b
    rw [List.getD_eq_getElem?_getD, List.getElem?_eq_getElem hi] at a
    rw [List.getD_eq_getElem?_getD, List.getElem?_eq_getElem hi'] at b
    simp only [Option.getD_some] at a b
    omega
theorem cutV_from (xs : List V) (i : Nat) : cutV xs (some (i : Int)) none = xs.drop i := by
  unfold cutV
  rw [HT.sIx_nat]
  show (xs.drop (min i xs.length)).take (xs.length - min i xs.length) = xs.drop i
  by_cases hi : i ≤ xs.length
  · rw [Nat.min_eq_left hi, List.take_of_length_le (by rw [List.length_drop]; omega)]
  · rw [Nat.min_eq_right (by omega), List.drop_of_length_le (Nat.le_refl _), List.drop_of_length_le (show xs.length ≤ i by omega), List.take_nil]
end Bk

namespace Bk
open PySem PySem.Spec PyProof.Rows L2
/-! ### by how much the prices of stretches that end with a day are more than they cost -/
def kad (w : Nat → Option Int) (pr : Nat → Int) : Nat → Int
  | 0 => 0
  | k + 1 => match w k with
    | none => 0
    | some c => if kad w pr k + pr k - c > 0 then kad w pr k + pr k - c else 0
/-- prices of a good's first n days -/
def IsPr (g : Good) (n : Nat) (d : PyData) (ns : List Int) : Prop := d = .list (ns.map PyData.int) ∧ ns.length = n ∧ ∀ k, k < n → wantN g k = 0 → rowF ns k = 0
/-- the days without a want, and whether the prices there are 0 -/
def zeros (g : Good) (ns : List Int) (i : Nat) : List Bool := (List.range i).filterMap fun k => if wantN g k = 0 then some (decide (rowF ns k = 0)) else none
end Bk

namespace Bk
open PySem PySem.Spec PyProof.Rows L2
/-! ### a block cut in two: what holds between the parts -/
section
variable {A1 A2 A3 A4 A5 A6 B : TS} {D : Ends} {σ : L2.St} {H : Hp} (Pm : L2.St → Hp → Prop)
theorem seq1 (hB : ∀ σ' H', Pm σ' H' → B D σ' H') (hA : ∀ N : L2.St → Hp → Prop, (∀ σ' H', Pm σ' H' → N σ' H') → A1 { D with nx := N } σ H) : tSeq A1 B D σ H := hA _ hB
theorem seq2 (hB : ∀ σ' H', Pm σ' H' → B D σ' H') (hA : ∀ N : L2.St → Hp → Prop, (∀ σ' H', Pm σ' H' → N σ' H') → tSeq A1 A2 { D with nx := N } σ H) : tSeq A1 (tSeq A2 B) D σ H := hA _ hB
theorem seq3 (hB : ∀ σ' H', Pm σ' H' → B D σ' H') (hA : ∀ N : L2.St → Hp → Prop, (∀ σ' H', Pm σ' H' → N σ' H') → tSeq A1 (tSeq A2 A3) { D with nx := N } σ H) : tSeq A1 (tSeq A2 (tSeq A3 B)) D σ H := hA _ hB
theorem seq4 (hB : ∀ σ' H', Pm σ' H' → B D σ' H') (hA : ∀ N : L2.St → Hp → Prop, (∀ σ' H', Pm σ' H' → N σ' H') → tSeq A1 (tSeq A2 (tSeq A3 A4)) { D with nx := N } σ H) : tSeq A1 (tSeq A2 (tSeq A3 (tSeq A4 B))) D σ H := hA _ hB
end
theorem map_set_int (ns : List Int) (j : Nat) (v : Int) : (ns.map V.int).set j (V.int v) = (ns.set j v).map V.int := by rw [List.map_set]
theorem ixN_nat {n j : Nat} (h : j < n) : ixN n (j : Int) = some j := by
  unfold ixN
  rw [if_pos (by omega), if_pos (by omega)]
  rfl
theorem rowF_set {ns : List Int} {j k : Nat} {v : Int} (hk : k < ns.length) : rowF (ns.set j v) k = if j = k then v else rowF ns k := by
  unfold rowF
  rw [List.getD_eq_getElem?_getD, List.getD_eq_getElem?_getD, List.getElem?_set]
  by_cases e : j = k
  · subst e
    rw [if_pos rfl, if_pos hk, if_pos rfl]
    rfl
  · rw [if_neg e, if_neg e]
end Bk

namespace Bk
open PySem PySem.Spec PyProof.Rows L2
/-! ### 1 << k -/
def rOne : R2 := fun x y H Q => ∃ k : Nat, x = .int 1 ∧ y = .int (k : Int) ∧ k ≤ 134217727 ∧ Q (.int (2 ^ k)) H
theorem rOne_i {j : Int} {H : Hp} {Q : VK} : rOne (.int 1) (.int j) H Q = ∃ k : Nat, j = (k : Int) ∧ k ≤ 134217727 ∧ Q (.int (2 ^ k)) H := propext ⟨fun ⟨k, _, e2, h⟩ => by cases e2; exact ⟨k, rfl, h⟩, fun ⟨k, e, h⟩ => ⟨k, rfl, by rw [e], h⟩⟩
theorem rIsB_b {a b : Bool} {H : Hp} {Q : VK} : rIsB (.bl a) (.bl b) H Q = Q (.bl (decide (a = b))) H := propext ⟨fun ⟨_, _, e1, e2, h⟩ => by cases e1; cases e2; exact h, fun h => ⟨a, b, rfl, rfl, h⟩⟩
theorem rNotB_b {a b : Bool} {H : Hp} {Q : VK} : rNotB (.bl a) (.bl b) H Q = Q (.bl (!decide (a = b))) H := propext ⟨fun ⟨_, _, e1, e2, h⟩ => by cases e1; cases e2; exact h, fun h => ⟨a, b, rfl, rfl, h⟩⟩
/-! ### dicts whose keys are days -/
def keyN (ns : List Nat) : List Key := ns.map fun n => Sum.inl ((n : Nat) : Int)
def addN (ns : List Nat) (n : Nat) : List Nat := if n ∈ ns then ns else ns ++ [n]
/-- the lights of different days, summed -/
theorem litSum_nodup (L : Nat → Int) (n : Nat) : ∀ ns : List Nat, ns.Nodup → (∀ m ∈ ns, m < n) → (ns.map L).sum = litSum L (fun m => m ∈ ns) n
  | [], _, _ => by
    have e : litSum L (fun m => m ∈ ([] : List Nat)) n = 0 := by
      unfold litSum
      exact sumN_zero n fun k _ => if_neg (by simp)
    rw [e]
    rfl
  | b :: r, h, hb => by
    have ih := litSum_nodup L n r (List.nodup_cons.mp h).2 fun m hm => hb m (List.mem_cons_of_mem _ hm)
    have e2 := sumN_one (L := L) n (hb b List.mem_cons_self)
    rw [List.map_cons, List.sum_cons, ih, ← e2]
    unfold litSum
    rw [← sumN_add]
    refine sumN_congr _ fun k hk => ?_
    dsimp only
    by_cases e : k = b
    · subst e
      rw [if_pos rfl, if_neg (List.nodup_cons.mp h).1, if_pos List.mem_cons_self]
      omega
    · rw [if_neg e]
      by_cases e3 : k ∈ r
      · rw [if_pos e3, if_pos (List.mem_cons_of_mem _ e3)]
        omega
      · rw [if_neg e3, if_neg fun z => (List.mem_cons.mp z).elim e e3]
        omega
theorem nodup_len {n : Nat} {ns : List Nat} (h : ns.Nodup) (hb : ∀ m ∈ ns, m < n) : ns.length ≤ n := by
  have e := litSum_nodup (fun _ => 1) n ns h hb
  have e1 : (ns.map fun _ => (1 : Int)).sum = (ns.length : Int) := by
    clear e h hb
    induction ns with
    | nil => rfl
    | cons a r ih =>
      rw [List.map_cons, List.sum_cons, ih, List.length_cons]
      omega
  have e2 : litSum (fun _ => 1) (fun m => m ∈ ns) n ≤ (n : Int) := by
    have a : sumN (fun _ => (1 : Int)) n = (n : Int) := by
      clear e e1 h hb
      induction n with
      | zero => rfl
      | succ n ih =>
        show sumN (fun _ => (1 : Int)) n + 1 = _
        rw [ih]
        omega
    rw [← a]
    unfold litSum
    exact sumN_le n fun k _ => by dsimp only; split <;> omega
  omega
theorem litSum_congr {L : Nat → Int} {S S' : Nat → Prop} {n : Nat} (h : ∀ k, k < n → (S k ↔ S' k)) : litSum L S n = litSum L S' n := by
  unfold litSum
  refine sumN_congr _ fun k hk => ?_
  by_cases e : S k
  · rw [if_pos e, if_pos ((h k hk).mp e)]
  · rw [if_neg e, if_neg fun z => e ((h k hk).mpr z)]
/-- there is a row of least costs -/
theorem exists_min_int {P : Int → Prop} {lo : Int} (hlo : ∀ v, P v → lo ≤ v) (h : ∃ v, P v) : ∃ v, P v ∧ ∀ u, P u → v ≤ u := by
  obtain ⟨v, hv⟩ := h
  obtain ⟨n, hn, hmin⟩ := exists_least (P := fun n : Nat => P (lo + (n : Int))) ⟨(v - lo).toNat, by
    have := hlo v hv
    show P (lo + ((v - lo).toNat : Int))
    rw [show lo + ((v - lo).toNat : Int) = v by omega]
    exact hv⟩
  refine ⟨_, hn, fun u hu => ?_⟩
  have hl := hlo u hu
  by_cases e : lo + (n : Int) ≤ u
  · exact e
  · exfalso
    refine hmin (u - lo).toNat (by omega) ?_
    show P (lo + ((u - lo).toNat : Int))
    rw [show lo + ((u - lo).toNat : Int) = u by omega]
    exact hu
theorem row_exists (g : Good) (lights : Nat → Int) : ∀ (n : Nat), n ≤ g.days.length → (∀ l, g.life = some l → 0 ≤ l) → (∀ b, 0 ≤ lights b) → NonNegW g.days → ∃ row, IsRow g lights row n ∧ ∀ m, m ≤ n → 0 ≤ row m
  | 0, _, _, _, _ => ⟨fun _ => 0, ⟨rfl, fun m h => by omega, fun m h => by omega⟩, fun m _ => Int.le_refl 0⟩
  | n + 1, hn, hl, hp, N => by
    obtain ⟨row, hR, h0⟩ := row_exists g lights n (by omega) hl hp N
    have hd : g.days[n]? = some g.days[n] := List.getElem?_eq_getElem (by omega)
    have ch := own_choice (lights := lights) (row := row) hd hl
    have lo : ∀ v, Choice g lights row n v → 0 ≤ v := by
      rintro v (⟨b, f, s, hb, hf, hs, hv⟩ | ⟨_, hv⟩)
      · have a1 := h0 f hf
        have a2 := hp b
        have a3 := segP_nonneg (fun k z e => wantP_nonneg N e) hs
        omega
      · rw [hv]
        exact h0 n (Nat.le_refl n)
    obtain ⟨v, hv, hmin⟩ := exists_min_int lo ⟨_, ch⟩
    obtain ⟨row', e, el⟩ : ∃ row' : Nat → Int, (∀ f, f ≤ n → row' f = row f) ∧ row' (n + 1) = v := ⟨fun k => if k = n + 1 then v else row k, fun f hf => if_neg (by omega), if_pos rfl⟩
    refine ⟨row', ⟨?_, fun m hm => ?_, fun m hm u hu => ?_⟩, fun m hm => ?_⟩
    · rw [e 0 (by omega)]
      exact hR.zero
    · by_cases hmn : m = n
      · subst hmn
        rw [el]
        exact hv.congr fun f hf => (e f hf).symm
      · rw [e (m + 1) (by omega)]
        exact (hR.some m (by omega)).congr fun f hf => (e f (by omega)).symm
    · by_cases hmn : m = n
      · subst hmn
        rw [el]
        exact hmin u (hu.congr fun f hf => e f hf)
      · rw [e (m + 1) (by omega)]
        exact hR.least m (by omega) u (hu.congr fun f hf => e f (by omega))
    · by_cases hmn : m = n + 1
      · rw [hmn, el]
        exact lo v hv
      · rw [e m (by omega)]
        exact h0 m (by omega)
def rSorD : List V → Hp → VK → Prop := fun xs H Q => ∃ (a : Addr) (kvs : List (Key × V)) (ks : List Int), xs = [.ref a] ∧ Rd H a (.dK kvs) ∧ kvs.map (·.1) = ks.map Sum.inl ∧ ks.length < 64 ∧ ∀ (ys : List Int) (p : Addr), ys.Perm ks → ys.Pairwise (· ≤ ·) → H p = none → Q (.ref p) (upd H p (.lst (ys.map V.int)))
theorem rSorD_r {p : Addr} {H : Hp} {Q : VK} : rSorD [.ref p] H Q = ∃ (kvs : List (Key × V)) (ks : List Int), Rd H p (.dK kvs) ∧ kvs.map (·.1) = ks.map Sum.inl ∧ ks.length < 64 ∧ ∀ (ys : List Int) (q : Addr), ys.Perm ks → ys.Pairwise (· ≤ ·) → H q = none → Q (.ref q) (upd H q (.lst (ys.map V.int))) :=
  propext ⟨fun ⟨_, kvs, ks, e, h⟩ => by cases e; exact ⟨kvs, ks, h⟩, fun ⟨kvs, ks, h⟩ => ⟨p, kvs, ks, rfl, h⟩⟩
end Bk

namespace Bk
open PySem PySem.Spec PyProof.Rows L2
/-! ### a def of the text that may let an exception out -/
structure DefX (P : Program) (w : World) (K : PySem.W.Frag) (mg : Str → Option Value) (base : Heap) (x : Str) (k : Nat) (ps : List Str) (sp : Sp) : Prop where
  ex : ∃ (f : Addr) (fd : FuncData), mg x = some (.ref f) ∧ PySem.W.keepIn K (.ref f) = true ∧ Binds K fd ps [] ∧ FnOk P w K mg base (L2.CX P w) k f fd ps sp
/-! ### {x} of a number or None -/
def smV : V → Prop
  | .non => True
  | .int i => i.natAbs < 10 ^ 60
  | _ => False
def tFmtO (te : TE) : TE := fun σ H Q => te σ H fun x H1 => smV x ∧ ∀ y : Str, y.length ≤ 70 → Q (.str y) H1
/-! ### the __init__ of an error with two fields -/
def spInit2 (K : PySem.W.Frag) (C : Addr) (f1 f2 : Str) : Sp := fun vs H Q _ => ∃ (a : Addr) (u v : V), vs = [.ref a, u, v] ∧ smV u ∧ smV v ∧ H a = some (exo a C none) ∧ ∀ dx, H dx = none → dx ≠ a → Q .non (upd (upd (upd H dx (exd dx [(f1, u)])) a (exo a C (some dx))) dx (exd dx [(f2, v), (f1, u)]))
end Bk

namespace Bk
open PySem PySem.Spec PyProof.Rows L2
/-! ### what is wrong with what is no bakery: the first thing -/
def fbD : Nat → List PyData → Option Nat
  | _, [] => none
  | i, d :: r => if dayB d = true then fbD (i + 1) r else some i
def badG (n : Nat) (d : PyData) : Option (Option Nat) := if goodFormB n d = true then (match d with
    | .tuple [.list ds, _] => (fbD 0 ds).map some
    | _ => some none) else some none
def wgD (n : Nat) : Nat → List PyData → Option (Nat × Option Nat)
  | _, [] => none
  | i, g :: r => match badG n g with
    | none => wgD n (i + 1) r
    | some o => some (i, o)
def wrongD (d : PyData) : Option (Option Nat × Option Nat) := if bakFormB d = true then (match d with
    | .tuple [.list ls, _, .list gs] => (wgD ls.length 0 gs).map fun p => (some p.1, p.2)
    | _ => some (none, none)) else some (none, none)
/-! ### raising -/
def clsBody : Stmt → List Stmt
  | .ClassDef (body := b) .. => b
  | _ => []
def clsM (st : Stmt) (j : Nat) : Stmt := (clsBody st).getD j (.Pass ⟨0, 0, 0, 0⟩)
/-- an error class with two fields, as the top has written it -/
structure Err2 (P : Program) (w : World) (K : PySem.W.Frag) (mg : Str → Option Value) (base : Heap) (x : Str) (C : Addr) (f1 f2 : Str) : Prop where
  g : mg x = some (.ref C)
  T : OexC K C
  init : ∃ (fI : Addr) (fd : FuncData), PySem.W.findIn K (.ref C) "__init__" = some (some (.ref fI)) ∧ PySem.W.typeIn K (.ref fI) = some (.type "function") ∧ Binds K fd ["self", f1, f2] [] ∧ FnOk P w K mg base CX0 1 fI fd ["self", f1, f2] (spInit2 K C f1 f2)
def rRaise2 (K : PySem.W.Frag) (C : Addr) (f1 f2 : Str) (W : WX) (σ : L2.St) (vs : List V) (H1 : Hp) : Prop := vs.length ≤ 1000 ∧ ∀ a, H1 a = none → spInit2 K C f1 f2 (.ref a :: (vs ++ [])) (upd H1 a (exo a C none))
  (fun v H2 => v = .non ∧ ∃ (d : Addr) (fs : List (Str × V)), H2 a = some (exo a C (some d)) ∧ H2 d = some (exd d fs) ∧ H1 d = none ∧ W (.ref C) (some d) σ (upd (del H2 a) d (.xd fs))) (fun _ _ _ => False)
def tRaise2 (K : PySem.W.Frag) (C : Addr) (f1 f2 : Str) (W : WX) (ta : TA) : TS := fun _ σ H => ta σ H fun vs H1 => rRaise2 K C f1 f2 W σ vs H1
end Bk

namespace Bk
open PySem PySem.Spec PyProof.Rows L2
/-! ### + of any two lists that can be read -/
def rCatL (K : PySem.W.Frag) : R2 := fun x y H Q => ∃ (l b : Addr) (xs zs : List V), x = .ref l ∧ y = .ref b ∧ SqL K H l xs ∧ SqL K H b zs ∧ xs.length + zs.length ≤ sizeLine ∧ ∀ p, H p = none → Q (.ref p) (upd H p (.lst (xs ++ zs)))
theorem op_catL {X : Cx} : OpR X (binaryOp .Add) (rCatL X.K) := by
  intro pins s σ H x y v u Q I rx ry h
  obtain ⟨l, b, xs, zs, rfl, rfl, hl, hb, hz, q⟩ := h
  cases rx
  cases ry
  obtain ⟨i1, r1, p1, z1⟩ := I.list hl
  obtain ⟨i2, r2, p2, z2⟩ := I.list hb
  have e1 := r1.length
  have e2 := r2.length
  obtain ⟨⟨k1, d1, t1, s1⟩, n1, g1, c1, f1, w1⟩ := p1
  obtain ⟨⟨k2, d2, t2, s2⟩, n2, g2, c2, f2, w2⟩ := p2
  simp only at c1 f1 w1 c2 f2 w2
  subst c1 f1 w1 c2 f2 w2
  refine concat_meets ⟨_, g1, rfl⟩ ⟨_, g2, rfl⟩ noFill_list_add seq_list_add PySem.F.slot_list_add PySem.F.entry_list_add (PySem.F.args_list_add_2 _ _) (list_addW l b i1.toArray i2.toArray n1 n2 none none s1 s2 (by rw [List.size_toArray, List.size_toArray]; omega)) ⟨g1, g2, ?_⟩
  rw [show i1.toArray ++ i2.toArray = (i1 ++ i2).toArray by simp]
  exact ⟨.ref _, _, I.lnew (t' := s.toks) (r1.append r2) (by rw [List.length_append]; omega), rfl, q _ I.fresh⟩
theorem rCatL_r {K : PySem.W.Frag} {l b : Addr} {H : Hp} {Q : VK} : rCatL K (.ref l) (.ref b) H Q = ∃ xs zs, SqL K H l xs ∧ SqL K H b zs ∧ xs.length + zs.length ≤ sizeLine ∧ ∀ p, H p = none → Q (.ref p) (upd H p (.lst (xs ++ zs))) := propext ⟨fun ⟨_, _, xs, zs, e1, e2, h⟩ => by cases e1; cases e2; exact ⟨xs, zs, h⟩, fun ⟨xs, zs, h⟩ => ⟨l, b, xs, zs, rfl, rfl, h⟩⟩
theorem rSlT_r {K : PySem.W.Frag} {a : Addr} {lo hi : Option Int} {H : Hp} {Q : VK} : rSlT K (.ref a) lo hi H Q = ∃ xs, SqT K H a xs ∧ ¬ (HT.sIx xs.length 0 lo = 0 ∧ HT.sIx xs.length xs.length hi = xs.length) ∧ ∀ p, H p = none → Q (.ref p) (upd H p (.tup (cutV xs lo hi))) := propext ⟨fun ⟨_, xs, e, h⟩ => by cases e; exact ⟨xs, h⟩, fun ⟨xs, h⟩ => ⟨a, xs, rfl, h⟩⟩
def rListOf (K : PySem.W.Frag) : List V → Hp → VK → Prop := fun xs H Q => ∃ p ys, xs = [.ref p] ∧ (SqL K H p ys ∨ SqT K H p ys) ∧ ∀ l, H l = none → Q (.ref l) (upd H l (.lst ys))
theorem rListOf_r {K : PySem.W.Frag} {p : Addr} {H : Hp} {Q : VK} : rListOf K [.ref p] H Q = ∃ ys, (SqL K H p ys ∨ SqT K H p ys) ∧ ∀ l, H l = none → Q (.ref l) (upd H l (.lst ys)) := propext ⟨fun ⟨_, ys, e, h⟩ => by cases e; exact ⟨ys, h⟩, fun ⟨ys, h⟩ => ⟨p, ys, rfl, h⟩⟩
end Bk

namespace Bk
open PySem PySem.Spec PyProof.Rows L2
/-! ### steady bakeries -/
structure Steady (g : Good) : Prop where
  nofine : ∀ d ∈ g.days, d.fine = none
  never : ∀ k d e, g.days[k]? = some d → g.days[k + 1]? = some e → e.loaf ≤ d.loaf + d.keep
theorem keepsL_head {ds : List Day} {b k : Nat} {d : Day} (hb : ds[b]? = some d) (hk : b < k) : keepsL ds b k = d.keep + keepsL ds (b + 1) k := by
  unfold keepsL
  obtain ⟨hi, e⟩ := List.getElem?_eq_some_iff.mp hb
  rw [List.drop_eq_getElem_cons hi, e, show k - b = (k - (b + 1)) + 1 by omega, List.take_succ_cons, List.map_cons, List.sum_cons]
/-- a loaf baked later, for a day behind both, costs no more -/
theorem loaf_later {g : Good} (S : Steady g) {k : Nat} (hk : k < g.days.length) : ∀ (n b : Nat), b + n ≤ k → ∀ z, loafP g b k = some z → ∃ y, loafP g (b + n) k = some y ∧ y ≤ z
  | 0, b, _, z, h => ⟨z, h, Int.le_refl z⟩
  | n + 1, b, hn, z, h => by
    have hd : g.days[b]? = some g.days[b] := List.getElem?_eq_getElem (by omega)
    have he : g.days[b + 1]? = some g.days[b + 1] := List.getElem?_eq_getElem (by omega)
    have st := S.never b _ _ hd he
    generalize g.days[b] = d at hd st
    generalize g.days[b + 1] = e at he st
    have step : ∃ y, loafP g (b + 1) k = some y ∧ y ≤ z := by
      obtain ⟨x, hx, hxz⟩ := loafP_ext' hd h
      obtain ⟨hl, hkp⟩ := (ext_keep (show b ≤ k by omega)).mp hx
      have e2 : extP g (b + 1) k = some (keepsL g.days (b + 1) k) := (ext_keep (show b + 1 ≤ k by omega)).mpr ⟨fun l hl' => by have := hl l hl'; omega, rfl⟩
      refine ⟨e.loaf + keepsL g.days (b + 1) k, by rw [loafP_ext he, e2]; rfl, ?_⟩
      have := keepsL_head hd (show b < k by omega)
      omega
    obtain ⟨y, hy, hyz⟩ := step
    obtain ⟨y2, hy2, h2⟩ := loaf_later S hk n (b + 1) (by omega) y hy
    exact ⟨y2, by rw [show b + (n + 1) = b + 1 + n by omega]; exact hy2, by omega⟩
theorem want_later {g : Good} (S : Steady g) (N : NonNegW g.days) {b c k : Nat} (hk : k < g.days.length) (hbc : b ≤ c) (hck : c ≤ k) {z : Int} (h : wantP g b k = some z) : ∃ y, wantP g c k = some y ∧ y ≤ z := by
  by_cases hw : wantN g k = 0
  · rw [wantP_unw hk hw] at h ⊢
    exact ⟨_, h, Int.le_refl _⟩
  · rcases wantP_inv h with ⟨e, _⟩ | ⟨y, e1, e2⟩
    · exact absurd e hw
    · obtain ⟨y2, h1, h2⟩ := loaf_later S hk (c - b) b (by omega) y e1
      rw [show b + (c - b) = c by omega] at h1
      refine ⟨wantN g k * y2, wantP_of hk fun _ => h1, ?_⟩
      rw [e2]
      exact Int.mul_le_mul_of_nonneg_left h2 (wantN_nonneg N k)
theorem seg_later {g : Good} (S : Steady g) (N : NonNegW g.days) {b c f : Nat} (hbc : b ≤ c) (hcf : c ≤ f) : ∀ (m : Nat) (s : Int), f + m ≤ g.days.length → segP (wantP g b) f m = some s → ∃ t, segP (wantP g c) f m = some t ∧ t ≤ s
  | 0, s, _, h => by
    rw [segP_zero] at h
    exact ⟨0, segP_zero _ _, by have := Option.some.inj h; omega⟩
  | m + 1, s, hm, h => by
    obtain ⟨x, y, h1, h2, h3⟩ := segP_succ h
    obtain ⟨t, h4, h5⟩ := seg_later S N hbc hcf m x (by omega) h1
    obtain ⟨u, h6, h7⟩ := want_later S N (show f + m < g.days.length by omega) hbc (by omega) h2
    exact ⟨t + u, segP_add h4 h6, by omega⟩
theorem segP_split {w : Nat → Option Int} {f : Nat} : ∀ (n m : Nat) {s : Int}, segP w f (m + n) = some s → ∃ x y, segP w f m = some x ∧ segP w (f + m) n = some y ∧ s = x + y
  | 0, m, s, h => ⟨s, 0, h, segP_zero _ _, by omega⟩
  | n + 1, m, s, h => by
    obtain ⟨x, y, h1, h2, h3⟩ := segP_succ (show segP w f (m + n + 1) = some s from h)
    obtain ⟨u, v, h4, h5, h6⟩ := segP_split n m h1
    exact ⟨u, v + y, h4, segP_add h5 (by rw [show f + m + n = f + (m + n) by omega]; exact h2), by omega⟩
theorem segP_join {w : Nat → Option Int} {f : Nat} : ∀ (n m : Nat) {x y : Int}, segP w f m = some x → segP w (f + m) n = some y → segP w f (m + n) = some (x + y)
  | 0, m, x, y, h1, h2 => by
    rw [segP_zero] at h2
    have := Option.some.inj h2
    rw [Nat.add_zero, h1]
    congr 1
    omega
  | n + 1, m, x, y, h1, h2 => by
    obtain ⟨u, v, h3, h4, h5⟩ := segP_succ h2
    have := segP_add (segP_join n m h1 h3) (show w (f + (m + n)) = some v by rw [show f + (m + n) = f + m + n by omega]; exact h4)
    rw [show m + (n + 1) = m + n + 1 by omega, this]
    congr 1
    omega
/-- any last stretch may as well begin with the day it is baked on -/
theorem diag {g : Good} {lights row : Nat → Int} {n : Nat} (h : IsRow g lights row n) (hn : n ≤ g.days.length) (hl : ∀ b, 0 ≤ lights b) (N : NonNegW g.days) (S : Steady g) {m : Nat} (hm : m < n) : ∀ (f b : Nat) (s : Int), b ≤ m → f ≤ m → segP (wantP g b) f (m + 1 - f) = some s →
    ∃ d t, d ≤ m ∧ segP (wantP g d) d (m + 1 - d) = some t ∧ row d + lights d + t ≤ row f + lights b + s := by
  intro f
  induction f using Nat.strongRecOn with
  | ind f ih =>
    intro b s hb hf hs
    by_cases hbf : b = f
    · subst hbf
      exact ⟨b, s, hb, hs, Int.le_refl _⟩
    · by_cases hlt : f < b
      · -- what would wait is not wanted
        have e : m + 1 - f = (b - f) + (m + 1 - b) := by omega
        rw [e] at hs
        obtain ⟨x, y, h1, h2, h3⟩ := segP_split _ _ hs
        rw [show f + (b - f) = b by omega] at h2
        have fl := row_flat h (f := f) b (by omega) (by omega) fun k hk1 hk2 => by
          obtain ⟨z, hz⟩ := segP_all h1 (k - f) (by omega)
          rw [show f + (k - f) = k by omega] at hz
          exact wantP_late S.nofine hk2 hz
        have nx := segP_nonneg (fun k z e => wantP_nonneg N e) h1
        exact ⟨b, y, hb, h2, by omega⟩
      · have hbf : b < f := by omega
        obtain ⟨f1, rfl⟩ : ∃ f1, f = f1 + 1 := ⟨f - 1, by omega⟩
        rcases h.some f1 (by omega) with ⟨b', f', s', hb', hf', hs', hv⟩ | ⟨⟨d, hd, hw⟩, hv⟩
        · by_cases hbb : b ≤ b'
          · obtain ⟨t, h1, h2⟩ := seg_later S N (f := f1 + 1) hbb (by omega) (m + 1 - (f1 + 1)) s (by omega) hs
            have e : m + 1 - f' = (f1 + 1 - f') + (m + 1 - (f1 + 1)) := by omega
            have j := segP_join (w := wantP g b') (f := f') (m + 1 - (f1 + 1)) (f1 + 1 - f') hs' (by rw [show f' + (f1 + 1 - f') = f1 + 1 by omega]; exact h1)
            rw [← e] at j
            obtain ⟨d, t', h3, h4, h5⟩ := ih f' (by omega) b' _ (by omega) (by omega) j
            have := hl b
            exact ⟨d, t', h3, h4, by omega⟩
          · by_cases hfb : b ≤ f'
            · obtain ⟨t, h1, h2⟩ := seg_later S N (b := b') (c := b) (f := f') (by omega) hfb (f1 + 1 - f') s' (by omega) hs'
              have e : m + 1 - f' = (f1 + 1 - f') + (m + 1 - (f1 + 1)) := by omega
              have j := segP_join (w := wantP g b) (f := f') (m + 1 - (f1 + 1)) (f1 + 1 - f') h1 (by rw [show f' + (f1 + 1 - f') = f1 + 1 by omega]; exact hs)
              rw [← e] at j
              obtain ⟨d, t', h3, h4, h5⟩ := ih f' (by omega) b _ (by omega) (by omega) j
              have := hl b'
              exact ⟨d, t', h3, h4, by omega⟩
            · -- the days from b on are baked on b
              have e1 : f1 + 1 - f' = (b - f') + (f1 + 1 - b) := by omega
              rw [e1] at hs'
              obtain ⟨x, y, h1, h2, h3⟩ := segP_split _ _ hs'
              rw [show f' + (b - f') = b by omega] at h2
              have hrb : row b ≤ row f' + lights b' + x := by
                have := h.least (b - 1) (by omega) (row f' + lights b' + x) (.inl ⟨b', f', x, by omega, by omega, by rw [show b - 1 + 1 - f' = b - f' by omega]; exact h1, rfl⟩)
                rw [show b - 1 + 1 = b by omega] at this
                exact this
              obtain ⟨t, h4, h5⟩ := seg_later S N (b := b') (c := b) (f := b) (by omega) (Nat.le_refl b) (f1 + 1 - b) y (by omega) h2
              have e : m + 1 - b = (f1 + 1 - b) + (m + 1 - (f1 + 1)) := by omega
              have j := segP_join (w := wantP g b) (f := b) (m + 1 - (f1 + 1)) (f1 + 1 - b) h4 (by rw [show b + (f1 + 1 - b) = f1 + 1 by omega]; exact hs)
              rw [← e] at j
              exact ⟨b, _, hb, j, by omega⟩
        · have hw0 : wantN g f1 = 0 := (wantN_at hd).trans hw
          have j := segP_join (w := wantP g b) (f := f1) (m + 1 - (f1 + 1)) 1 (x := 0) (by
            have := segP_add (segP_zero (wantP g b) f1) (show wantP g b (f1 + 0) = some 0 from wantP_unw (by omega) hw0)
            exact this) hs
          rw [show 1 + (m + 1 - (f1 + 1)) = m + 1 - f1 by omega] at j
          obtain ⟨d, t', h3, h4, h5⟩ := ih f1 (by omega) b _ (by omega) (by omega) j
          exact ⟨d, t', h3, h4, by omega⟩
/-! ### the last lit day -/
/-- a cheapest plan for the first j days bakes all from d on, something, on d -/
def EndsAt (g : Good) (lights row : Nat → Int) (j d : Nat) : Prop := d < j ∧ 0 < sumN (fun i => wantN g (d + i)) (j - d) ∧ ∃ s, segP (wantP g d) d (j - d) = some s ∧ row d + lights d + s = row j
def IsLast (g : Good) (lights row : Nat → Int) (j : Nat) : Option Nat → Prop
  | none => ∀ d, ¬ EndsAt g lights row j d
  | some d => EndsAt g lights row j d ∧ ∀ e, d < e → ¬ EndsAt g lights row j e
theorem IsLast.uniq {g : Good} {lights row : Nat → Int} {j : Nat} {o o' : Option Nat} (h : IsLast g lights row j o) (h' : IsLast g lights row j o') : o = o' := by
  cases o with
  | none =>
    cases o' with
    | none => rfl
    | some d => exact absurd h'.1 (h d)
  | some d =>
    cases o' with
    | none => exact absurd h.1 (h' d)
    | some e =>
      congr 1
      by_cases h1 : d < e
      · exact absurd h'.1 (h.2 e h1)
      · by_cases h2 : e < d
        · exact absurd h.1 (h'.2 d h2)
        · omega
theorem wsum_zero {g : Good} {d : Nat} (N : NonNegW g.days) : ∀ m, sumN (fun i => wantN g (d + i)) m = 0 → ∀ i, i < m → wantN g (d + i) = 0
  | 0, _, i, hi => by omega
  | m + 1, h, i, hi => by
    have h : sumN (fun i => wantN g (d + i)) m + wantN g (d + m) = 0 := h
    have a := sumN_nonneg (f := fun i => wantN g (d + i)) m fun k _ => wantN_nonneg N _
    have b := wantN_nonneg N (d + m)
    by_cases e : i = m
    · subst e
      omega
    · exact wsum_zero N m (by omega) i (by omega)
theorem wsum_pos {g : Good} {d m i : Nat} (N : NonNegW g.days) (hi : i < m) (h : 0 < wantN g (d + i)) : 0 < sumN (fun i => wantN g (d + i)) m := by
  have a := sumN_nonneg (f := fun i => wantN g (d + i)) m fun k _ => wantN_nonneg N _
  by_cases e : sumN (fun i => wantN g (d + i)) m = 0
  · have := wsum_zero N m e i hi
    omega
  · omega
section
variable {g : Good} {lights row : Nat → Int} {n : Nat}
/-- of a day without a want nothing changes -/
theorem last_unw (h : IsRow g lights row n) (hn : n ≤ g.days.length) (hl : ∀ b, 0 ≤ lights b) (N : NonNegW g.days) (S : Steady g) {m : Nat} (hm : m < n) (hw : wantN g m = 0) (d : Nat) : EndsAt g lights row (m + 1) d ↔ EndsAt g lights row m d := by
  have er : row (m + 1) = row m := by
    have a := row_up h hl N S.nofine hm
    have b := row_flat h (f := m) (m + 1) (by omega) (by omega) fun k h1 h2 => by
      rw [show k = m by omega]
      exact wantN_zero (by omega) hw
    omega
  constructor
  · rintro ⟨h1, h2, s, h3, h4⟩
    have hdm : d < m := by
      by_cases e : d = m
      · subst e
        rw [show d + 1 - d = 1 by omega] at h2
        have h2 : 0 < 0 + wantN g (d + 0) := h2
        rw [Nat.add_zero, hw] at h2
        omega
      · omega
    rw [show m + 1 - d = (m - d) + 1 by omega] at h2 h3
    obtain ⟨x, y, a1, a2, a3⟩ := segP_succ h3
    rw [show d + (m - d) = m by omega, wantP_unw (by omega) hw] at a2
    have a2 := Option.some.inj a2
    have h2 : 0 < sumN (fun i => wantN g (d + i)) (m - d) + wantN g (d + (m - d)) := h2
    rw [show d + (m - d) = m by omega, hw] at h2
    exact ⟨hdm, by omega, x, a1, by omega⟩
  · rintro ⟨h1, h2, s, h3, h4⟩
    refine ⟨by omega, ?_, s, ?_, by omega⟩
    · rw [show m + 1 - d = (m - d) + 1 by omega]
      show 0 < sumN (fun i => wantN g (d + i)) (m - d) + wantN g (d + (m - d))
      rw [show d + (m - d) = m by omega, hw]
      omega
    · rw [show m + 1 - d = (m - d) + 1 by omega]
      have := segP_add h3 (show wantP g d (d + (m - d)) = some 0 by rw [show d + (m - d) = m by omega]; exact wantP_unw (by omega) hw)
      rw [this, Int.add_zero]
theorem last_wanted (h : IsRow g lights row n) (hn : n ≤ g.days.length) (hl : ∀ b, 0 ≤ lights b) (N : NonNegW g.days) (S : Steady g) {m : Nat} (hm : m < n) (hw : wantN g m ≠ 0) : ∃ d, EndsAt g lights row (m + 1) d := by
  have hp : 0 < wantN g m := by have := wantN_nonneg N m; omega
  rcases h.some m hm with ⟨b, f, s, hb, hf, hs, hv⟩ | ⟨⟨d, hd, hw'⟩, _⟩
  · obtain ⟨d, t, h1, h2, h3⟩ := diag h hn hl N S hm f b s hb hf hs
    have h4 := h.least m hm _ (.inl ⟨d, d, t, h1, h1, h2, rfl⟩)
    refine ⟨d, by omega, wsum_pos N (i := m - d) (by omega) (by rw [show d + (m - d) = m by omega]; exact hp), t, h2, by omega⟩
  · exact absurd ((wantN_at hd).trans hw') hw
/-- it never goes back -/
theorem last_up (h : IsRow g lights row n) (hn : n ≤ g.days.length) (hl : ∀ b, 0 ≤ lights b) (N : NonNegW g.days) (S : Steady g) {m d e : Nat} (hm : m < n) (hw : wantN g m ≠ 0) (hd : EndsAt g lights row m d) (he : IsLast g lights row (m + 1) (some e)) : d ≤ e := by
  by_cases hlt : e < d
  · exfalso
    obtain ⟨d1, d2, s, d3, d4⟩ := hd
    obtain ⟨⟨e1, e2, t, e3, e4⟩, e5⟩ := he
    rw [show m + 1 - e = (m - e) + 1 by omega] at e3
    obtain ⟨x, y, a1, a2, a3⟩ := segP_succ e3
    rw [show e + (m - e) = m by omega] at a2
    obtain ⟨y', b1, b2⟩ := want_later S N (show m < g.days.length by omega) (show e ≤ d by omega) (by omega) a2
    have le : row m ≤ row e + lights e + x := by
      have := h.least (m - 1) (by omega) (row e + lights e + x) (.inl ⟨e, e, x, by omega, by omega, by rw [show m - 1 + 1 - e = m - e by omega]; exact a1, rfl⟩)
      rw [show m - 1 + 1 = m by omega] at this
      exact this
    have sg : segP (wantP g d) d (m + 1 - d) = some (s + y') := by
      rw [show m + 1 - d = (m - d) + 1 by omega]
      exact segP_add d3 (by rw [show d + (m - d) = m by omega]; exact b1)
    have ge := h.least m hm _ (.inl ⟨d, d, _, by omega, by omega, sg, rfl⟩)
    have hp : 0 < wantN g m := by have := wantN_nonneg N m; omega
    exact e5 d hlt ⟨by omega, wsum_pos N (i := m - d) (by omega) (by rw [show d + (m - d) = m by omega]; exact hp), _, sg, by omega⟩
  · omega
end
end Bk

namespace Bk
open PySem PySem.Spec PyProof.Rows L2
def natO (o : Option Nat) : Option Int := o.map fun d => (d : Int)
def natV (o : Option Nat) : V := optV (natO o)
/-- the last lit days of a bakery's first days -/
structure Lasts (g : Good) (ls : List Int) (os : List (Option Nat)) : Prop where
  len : os.length = ls.length + 1
  row : ∃ row, IsRow g (rowF ls) row ls.length ∧ ∀ j o, os[j]? = some o → IsLast g (rowF ls) row j o
theorem EndsAt.congr {g : Good} {lights lights' row row' : Nat → Int} {j d : Nat} (e : ∀ k, k ≤ j → row k = row' k) (el : ∀ k, k < j → lights k = lights' k) (h : EndsAt g lights row j d) : EndsAt g lights' row' j d := by
  obtain ⟨h1, h2, s, h3, h4⟩ := h
  exact ⟨h1, h2, s, h3, by rw [← e d (by omega), ← e j (Nat.le_refl j), ← el d h1]; exact h4⟩
theorem IsLast.of_iff {g g' : Good} {lights lights' row row' : Nat → Int} {j j' : Nat} {o : Option Nat} (e : ∀ d, EndsAt g lights row j d ↔ EndsAt g' lights' row' j' d) (h : IsLast g lights row j o) : IsLast g' lights' row' j' o := by
  cases o with
  | none => exact fun d z => h d ((e d).mpr z)
  | some d => exact ⟨(e d).mp h.1, fun x hx z => h.2 x hx ((e x).mpr z)⟩
theorem Lasts.at_ {g : Good} {ls : List Int} {os : List (Option Nat)} (h : Lasts g ls os) {row : Nat → Int} (hR : IsRow g (rowF ls) row ls.length) {j : Nat} {o : Option Nat} (ho : os[j]? = some o) : IsLast g (rowF ls) row j o := by
  obtain ⟨row', h1, h2⟩ := h.row
  have hj : j < os.length := (List.getElem?_eq_some_iff.mp ho).1
  have hl := h.len
  have e := h1.ext hR
  exact (h2 j o ho).of_iff fun d => ⟨fun z => z.congr (fun k hk => e k (by omega)) fun _ _ => rfl, fun z => z.congr (fun k hk => (e k (by omega)).symm) fun _ _ => rfl⟩
theorem Lasts.uniq {g : Good} {ls : List Int} {os os' : List (Option Nat)} (h : Lasts g ls os) (h' : Lasts g ls os') : os = os' := by
  obtain ⟨row, h1, h2⟩ := h.row
  apply List.ext_getElem?
  intro j
  by_cases hj : j < ls.length + 1
  · have e := List.getElem?_eq_getElem (show j < os.length by rw [h.len]; exact hj)
    have e' := List.getElem?_eq_getElem (show j < os'.length by rw [h'.len]; exact hj)
    rw [e, e', (h2 j _ e).uniq (h'.at_ h1 e')]
  · rw [List.getElem?_eq_none (by rw [h.len]; omega), List.getElem?_eq_none (by rw [h'.len]; omega)]
theorem wantN_take {g : Good} {m k : Nat} (hk : k < m) : wantN ⟨g.days.take m, g.life⟩ k = wantN g k := by
  unfold wantN
  dsimp only
  rw [List.getElem?_take_of_lt hk]
theorem ends_take {g : Good} {lights lights' row : Nat → Int} {m j d : Nat} (hj : j ≤ m) (el : ∀ k, k < m → lights' k = lights k) : EndsAt g lights row j d ↔ EndsAt ⟨g.days.take m, g.life⟩ lights' row j d := by
  have key : d < j → sumN (fun i => wantN ⟨g.days.take m, g.life⟩ (d + i)) (j - d) = sumN (fun i => wantN g (d + i)) (j - d) := fun hd => sumN_congr _ fun i hi => wantN_take (by omega)
  constructor
  · rintro ⟨h1, h2, s, h3, h4⟩
    exact ⟨h1, by rw [key h1]; exact h2, s, by rw [segP_take (by omega) (by omega)]; exact h3, by rw [el d (by omega)]; exact h4⟩
  · rintro ⟨h1, h2, s, h3, h4⟩
    exact ⟨h1, by rw [← key h1]; exact h2, s, by rw [← segP_take (j := m) (by omega) (by omega)]; exact h3, by rw [← el d (by omega)]; exact h4⟩
theorem Lasts.take {g : Good} {ls : List Int} {os : List (Option Nat)} (h : Lasts g ls os) {m : Nat} (hm : m ≤ ls.length) : Lasts ⟨g.days.take m, g.life⟩ (ls.take m) (os.take (m + 1)) := by
  obtain ⟨row, h1, h2⟩ := h.row
  have el : (ls.take m).length = m := by rw [List.length_take]; omega
  refine ⟨by rw [List.length_take, h.len, el]; omega, row, ?_, fun j o ho => ?_⟩
  · rw [el]
    exact row_lights (fun b hb => (rowF_take hb).symm) (h1.take hm)
  · have hj : j < m + 1 := by
      have := (List.getElem?_eq_some_iff.mp ho).1
      rw [List.length_take] at this
      omega
    rw [List.getElem?_take_of_lt hj] at ho
    exact (h2 j o ho).of_iff fun d => ends_take (by omega) fun k hk => rowF_take hk
theorem Steady.take {g : Good} (h : Steady g) (m : Nat) : Steady ⟨g.days.take m, g.life⟩ := by
  refine ⟨fun d hd => h.nofine d (List.mem_of_mem_take hd), fun k d e hd he => ?_⟩
  have hk : k + 1 < m := by
    have := (List.getElem?_eq_some_iff.mp he).1
    rw [List.length_take] at this
    omega
  have hd : (g.days.take m)[k]? = some d := hd
  have he : (g.days.take m)[k + 1]? = some e := he
  rw [List.getElem?_take_of_lt (by omega)] at hd
  rw [List.getElem?_take_of_lt hk] at he
  exact h.never k d e hd he
/-! ### lists of days or None, compared -/
theorem atI_last {α : Type} {xs : List α} {m : Nat} {v : α} (h : xs.length = m + 1) (e : xs[m]? = some v) : atI xs (-1) = some v := by
  have k : ixN xs.length (-1) = some m := by
    rw [h]
    unfold ixN
    rw [if_neg (by decide), if_pos (by omega)]
    congr 1
    omega
  unfold atI
  rw [k]
  exact e
end Bk

namespace Bk
open PySem PySem.Spec PyProof.Rows L2
/-! ### list != []: whatever the list holds -/
def rNeN (K : PySem.W.Frag) : R2 := fun x y H Q => ∃ (l b : Addr) (xs : List V), x = .ref l ∧ y = .ref b ∧ SqL K H l xs ∧ SqL K H b [] ∧ Q (.bl (!decide (xs.length = 0))) H
theorem rNeN_r {K : PySem.W.Frag} {l b : Addr} {H : Hp} {Q : VK} : rNeN K (.ref l) (.ref b) H Q = ∃ xs, SqL K H l xs ∧ SqL K H b [] ∧ Q (.bl (!decide (xs.length = 0))) H := propext ⟨fun ⟨_, _, xs, e1, e2, h⟩ => by cases e1; cases e2; exact ⟨xs, h⟩, fun ⟨xs, h⟩ => ⟨l, b, xs, rfl, rfl, h⟩⟩
end Bk

namespace Bk
open PySem PySem.Spec PyProof.Rows L2
/-! ### i not in range(lo, hi) -/
def rNinr : R2 := fun x y H Q => ∃ (i : Int) (p : Addr) (m n : Int), x = .int i ∧ y = .ref p ∧ H p = some (.rng m n) ∧ Q (.bl (!decide (m ≤ i ∧ i < n))) H
theorem rNinr_r {i : Int} {a : Addr} {H : Hp} {Q : VK} : rNinr (.int i) (.ref a) H Q = ∃ lo hi, H a = some (.rng lo hi) ∧ Q (.bl (!decide (lo ≤ i ∧ i < hi))) H := propext ⟨fun ⟨_, _, lo, hi, e1, e2, h⟩ => by cases e1; cases e2; exact ⟨lo, hi, h⟩, fun ⟨lo, hi, h⟩ => ⟨i, a, lo, hi, rfl, rfl, h⟩⟩
end Bk

namespace Bk
open PySem PySem.Spec PyProof.Rows L2
/-! ### what is a bakery by the looks has its shape -/
/-! ### t[::-1] of a tuple -/
def backV {α : Type} (xs : List α) : List α := ((List.range xs.length).map fun (k : Nat) => ((xs.length : Int) - 1 + (k : Int) * -1).toNat).filterMap (xs[·]?)
section
variable {prog : Program} {w : World} {A : Around} {E : Value → Shared → Prop} {s : Shared}
end
def tBackT (K : PySem.W.Frag) (te : TE) (tl th ts : TO) : TE := fun σ H Q => te σ H fun x H1 => tl σ H1 fun l H2 => th σ H2 fun u H3 => ts σ H3 fun st H4 => ∃ a xs, x = .ref a ∧ SqT K H4 a xs ∧ l = none ∧ u = none ∧ st = some (-1) ∧
  ∀ p, H4 p = none → Q (.ref p) (upd H4 p (.tup (backV xs)))
/-! ### expressions that tell some data, whatever they are -/
def Grow (R : Hp → V → Prop) : Prop := ∀ H H' y, Same H H' → R H y → R H' y
def Ye (R : Hp → V → Prop) (te : TE) (σ : L2.St) (H : Hp) : Prop := ∀ H1, Same H H1 → ∀ Q : VK, (∀ H2 y, Same H1 H2 → R H2 y → Q y H2) → te σ H1 Q
def Ya (R : Hp → List V → Prop) (ta : TA) (σ : L2.St) (H : Hp) : Prop := ∀ H1, Same H H1 → ∀ Q : List V → Hp → Prop, (∀ H2 ys, Same H1 H2 → R H2 ys → Q ys H2) → ta σ H1 Q
def Yo (to : TO) (σ : L2.St) (H : Hp) : Prop := ∀ H1, Same H H1 → ∀ Q : Option Int → Hp → Prop, (∀ H2 o, Same H1 H2 → Q o H2) → to σ H1 Q
def Yt (tt : TT) (σ : L2.St) (H : Hp) : Prop := ∀ H1, Same H H1 → ∀ Q : Bool → Hp → Prop, (∀ H2 b, Same H1 H2 → Q b H2) → tt σ H1 Q
def AnyD (K : PySem.W.Frag) : Hp → V → Prop := fun H y => ∃ d, Th K H y d
def TupD (K : PySem.W.Frag) (n : Nat) : Hp → V → Prop := fun H y => ∃ ds, ds.length ≤ n ∧ Th K H y (.tuple ds)
def LstD (K : PySem.W.Frag) (n : Nat) : Hp → V → Prop := fun H y => ∃ ds, ds.length ≤ n ∧ Th K H y (.list ds)
def LstE (K : PySem.W.Frag) (n : Nat) : Hp → V → Prop := fun H y => ∃ ds, ds.length = n ∧ Th K H y (.list ds)
def AllD (K : PySem.W.Frag) (n : Nat) : Hp → List V → Prop := fun H ys => ∃ ds, ds.length = n ∧ ThAll K H ys ds
def IntD (P : Int → Prop) : Hp → V → Prop := fun _ y => ∃ i, y = .int i ∧ P i
section
variable {K : PySem.W.Frag} {σ : L2.St} {H : Hp} {te ta tb : TE} {R R' : Hp → V → Prop}
theorem Ye.at (h : Ye R te σ H) {H1 : Hp} (S : Same H H1) {Q : VK} (q : ∀ H2 y, Same H1 H2 → R H2 y → Q y H2) : te σ H1 Q := h H1 S Q q
theorem Ye.same (h : Ye R te σ H) {H1 : Hp} (S : Same H H1) : Ye R te σ H1 := fun H2 S2 => h H2 (S.trans S2)
theorem Ye.weak (h : Ye R te σ H) (w : ∀ H y, R H y → R' H y) : Ye R' te σ H := fun H1 S Q q => h H1 S Q fun H2 y S2 r => q H2 y S2 (w _ _ r)
theorem Ye.tup {n : Nat} (h : Ye (TupD K n) te σ H) : Ye (AnyD K) te σ H := h.weak fun _ _ ⟨ds, _, t⟩ => ⟨_, t⟩
theorem Ye.lst {n : Nat} (h : Ye (LstD K n) te σ H) : Ye (AnyD K) te σ H := h.weak fun _ _ ⟨ds, _, t⟩ => ⟨_, t⟩
theorem Ye.exact {n : Nat} (h : Ye (LstE K n) te σ H) : Ye (LstD K n) te σ H := h.weak fun _ _ ⟨ds, e, t⟩ => ⟨_, Nat.le_of_eq e, t⟩
theorem Ye.int {P : Int → Prop} (h : Ye (IntD P) te σ H) : Ye (AnyD K) te σ H := h.weak fun _ _ ⟨i, e, _⟩ => ⟨.int i, by rw [e]; exact .int i⟩
def rTupOf (K : PySem.W.Frag) : List V → Hp → VK → Prop := fun xs H Q => ∃ p ys, xs = [.ref p] ∧ ((SqL K H p ys ∧ ∀ l, H l = none → Q (.ref l) (upd H l (.tup ys))) ∨ (SqT K H p ys ∧ Q (.ref p) H))
def LstT (K : PySem.W.Frag) (n : Nat) : Hp → V → Prop := fun H y => ∃ a xs ds, y = .ref a ∧ H a = some (.lst xs) ∧ ThAll K H xs ds ∧ ds.length ≤ n
/-! ### rows of a block, one by one -/
section
variable {A B C : TS} {D : Ends} {tt : TT}
end
end
end Bk

namespace Bk
open PySem PySem.Spec PyProof.Rows L2
/-! ### max(xs, default=d) of a list of ints -/
section
variable {prog : Program} {w : World} {A : Around} {E : Value → Shared → Prop} {s : Shared}
variable {R : Result → Shared → Prop} {J : Addr} {fp wr : List Addr} {n : Nat} {P : Nat → Value → Prop} {St : Nat → Heap → Prop} {kw : List (Str × Value)}
end
def rMaxD (K : PySem.W.Frag) : List V → List V → Hp → VK → Prop := fun vs zs H Q => ∃ (a : Addr) (ns : List Int) (d : Int), vs = [V.ref a] ∧ zs = [V.int d] ∧ SqL K H a (ns.map V.int) ∧ (ns = [] → Q (.int d) H) ∧ ∀ m, m ∈ ns → (∀ y, y ∈ ns → y ≤ m) → Q (.int m) H
end Bk

namespace Bk
open PySem PySem.Spec PyProof.Rows L2
/-! ### chains of last lit days -/
def Down (os : List (Option Nat)) : Prop := ∀ (j d : Nat), os[j]? = some (some d) → d < j
def chainN (os : List (Option Nat)) : Nat → Nat → List Nat
  | 0, j => [j]
  | f + 1, j => j :: (match os[j]? with | some (some d) => chainN os f d | _ => [])
def chain (os : List (Option Nat)) (j : Nat) : List Nat := chainN os j j
section
variable {os : List (Option Nat)}
/-- in the chains of all numbers from the last lit day on -/
def SharedM (os : List (Option Nat)) (n m : Nat) : Prop := ∃ l, os[n]? = some (some l) ∧ ∀ k, l ≤ k → k < n → m ∈ chain os k
structure IsMany (os : List (Option Nat)) (n m : Nat) : Prop where
  most : ∀ m', SharedM os n m' → m' ≤ m
  at_ : m = 0 ∨ SharedM os n m
theorem IsMany.uniq {n m m' : Nat} (h : IsMany os n m) (h' : IsMany os n m') : m = m' := by
  rcases h.at_ with e | e <;> rcases h'.at_ with e' | e'
  · omega
  · have := h.most m' e'
    omega
  · have := h'.most m e
    omega
  · have := h.most m' e'
    have := h'.most m e
    omega
def litOf (os : List (Option Nat)) (m : Nat) : List Nat := (chain os m).tail.reverse
end
theorem Lasts.down {g : Good} {ls : List Int} {os : List (Option Nat)} (h : Lasts g ls os) : Down os := fun j d e => by
  obtain ⟨row, h1, h2⟩ := h.row
  exact (h2 j _ e).1.1
def natI (n : Nat) : V := .int (n : Int)
end Bk

namespace Bk
open PySem PySem.Spec PyProof.Rows L2
/-! ### dict(pairs), walks over a dict that is locked -/
def rDictP (K : PySem.W.Frag) : List V → Hp → VK → Prop := fun xs H Q => ∃ (a : Addr) (ps : List Addr) (kvs : List (Key × V)), xs = [.ref a] ∧ SqL K H a (ps.map V.ref) ∧ Paired (fun p kv => SqT K H p [kV kv.1, kv.2]) ps kvs ∧ ∀ p, H p = none → Q (.ref p) (upd H p (.dK (mergeK [] kvs)))
/-- a dict whose keys are just these days -/
structure DictN (H : Hp) (p : Addr) (ns : List Nat) : Prop where
  ex : ∃ kvs : List (Key × V), H p = some (.dK kvs) ∧ kvs.map (·.1) = keyN ns
theorem DictN.same {H H' : Hp} {p : Addr} {ns : List Nat} (h : DictN H p ns) (s : Same H H') : DictN H' p ns := by
  obtain ⟨kvs, e, k⟩ := h.ex
  exact ⟨kvs, s _ _ e, k⟩
end Bk

namespace Bk
open PySem PySem.Spec PyProof.Rows L2
/-! ### d == {}, and dicts of days with whole numbers -/
def rEqDE : R2 := fun x y H Q => ∃ a b ks, x = .ref a ∧ y = .ref b ∧ H a = some (.dK ks) ∧ H b = some (.dK []) ∧ Q (.bl (decide (ks.length = 0))) H
def mkE (es : List (Nat × Int)) : List (Key × V) := es.map fun e => (Sum.inl ((e.1 : Nat) : Int), V.int e.2)
def putE (es : List (Nat × Int)) (d : Nat) (v : Int) : List (Nat × Int) := if (es.any fun e => decide (e.1 = d)) = true then es.map (fun e => if e.1 = d then (d, v) else e) else es ++ [(d, v)]
def lookE (es : List (Nat × Int)) (d : Nat) : Option Int := (es.find? fun e => decide (e.1 = d)).map (·.2)
end Bk

namespace Bk
open PySem PySem.Spec PyProof.Rows L2
/-! ### set(xs) of a list of ints -/
abbrev emp0 (w : World) : Obj := { cls := .type "set", dict := none, data := .set #[] 0 (.fresh 0 0 (!w.params.followText "set-order")) }
section
variable {P : Program} {w : World} {A : Around} {E : Value → Shared → Prop} {s : Shared}
set_option maxHeartbeats 3200000 in
theorem set_ofList {l : Addr} {its : Array Value} (zs : List Int) {Q : Value → Shared → Prop} (ah : A.handled = none) (il : s.heap.IsList l its) (ia : IntsAre its.toList zs) (few : zs.length + 1 < scanBound)
    (go : ∀ (h' : Heap) (tk c : Nat), SetR w h' s.heap.objs.size (fun j => decide (j ∈ zs)) c → c ≤ zs.length → (∀ b o, s.heap.get? b = some o → h'.get? b = some o) → Q (.ref s.heap.objs.size) { s with heap := h', toks := tk }) : wpAny (model P w) A (call (.type "set") [.ref l]) Q E s := by
  have isz : its.size = zs.length := by have z := IntsAre.length ia; rw [Array.length_toList] at z; exact z
  obtain ⟨c, tl, m1⟩ := F.called_set.mro
  have m2 := F.called_set.made
  have m3 := F.called_set.sub
  refine wpAny_call (codeAny_of_tree ?_); show wpAny _ _ (callAny (.type "set") _) _ _ _
  refine wpAny_pure ⟨Code.quiet_builtin _ (by decide +kernel), codeAny_builtin F.entry_type_call ?_⟩; rw [Around.under_plain (weight_type_call_type "set" [.ref l] []) rfl]
  have m4 := F.called_set.notType
  have m5 := F.called_set.canCreate
  have m6 := F.typeCall_set_1 (.ref l)
  repeat (any_goals (first | assumption | wp_step))
  refine codeAny_mono (code_set_led1 (.ref l) (E := E) (Q₁ := fun u t => u = .ref s.heap.objs.size ∧ t = { s with heap := s.heap.push (emp0 w) }) ⟨rfl, rfl⟩) fun r t hr => ?_
  cases r with
  | error e => exact hr
  | ok fl =>
    cases fl with
    | ret u =>
      obtain ⟨rfl, rfl⟩ := hr
      have eS : (s.heap.push (emp0 w)).get? s.heap.objs.size = some (emp0 w) := Heap.get?_push_size _ rfl
      have eT : Shared.TypeIs { s with heap := s.heap.push (emp0 w) } (.ref s.heap.objs.size) "set" := ⟨_, eS, rfl⟩
      have m7 := F.called_set.init.lookup
      have m8 := F.called_set.init.bind (.ref s.heap.objs.size)
      repeat (any_goals (first | assumption | wp_step))
      refine codeAny_mono (codeAny_call_builtin (R := wants (fun r t2 => r = .none ∧ ∃ h' tk c, t2 = { s with heap := h', toks := tk } ∧ SetR w h' s.heap.objs.size (fun j => decide (j ∈ zs)) c ∧ c ≤ zs.length ∧ (∀ b o, s.heap.get? b = some o → h'.get? b = some o)) E) F.called_set.init.plain F.entry_set_init (check_set_init_1 eT ?_)) fun r2 t2 hr2 => ?_
      · obtain ⟨ob, eb, ec, nl, ed⟩ := il
        obtain ⟨b1, b2, b3, b4⟩ := ob
        simp only at ec ed
        subst ec
        subst ed
        have eb' : (s.heap.push (emp0 w)).get? l = some { cls := .type "list", dict := b2, data := .seq its nl, slots := b4 } := Heap.get?_push_of_some _ eb
        have m9 := F.sub_list_set
        have ma := F.sub_list_frozenset
        have mb : (Value.type "list" == Value.type "dict") = false := by decide
        have il1 : (s.heap.push (emp0 w)).IsList l its := ⟨_, eb', rfl, nl, rfl⟩
        unfold Builtin.«set.__init__» noKeywords Builtin.Frozenset.updateFrom
        generalize hI : pyIter = PI
        wp_walk
        subst hI
        refine wpAny_pyIter_list il1 ?_
        refine wpAny_bind (wpAny_runValue ?_)
        have ll : l < s.heap.objs.size := Heap.lt_size eb
        have ah3 : A.in1.in1.in1.handled = none := by simp [ah]
        have nI : l ≠ (s.heap.push (emp0 w)).objs.size := by rw [Heap.size_push]; exact Nat.ne_of_lt (Nat.lt_succ_of_lt ll)
        have nS : s.heap.objs.size ∉ [(s.heap.push (emp0 w)).objs.size, l] := by
          rw [Heap.size_push]; simp only [List.mem_cons, List.mem_singleton, List.not_mem_nil, or_false, not_or]; exact ⟨Nat.ne_of_lt (Nat.lt_succ_self _), Nat.ne_of_gt ll⟩
        have at_ : ∀ (i : Nat) (v : Value), its[i]? = some v → ∃ k t, zs[i]? = some k ∧ v = .int k t := fun i v hv => by
          have hi : i < zs.length := by rw [← isz]; exact (Array.getElem?_eq_some_iff.mp hv).1
          obtain ⟨t, e⟩ := PyProof.Rows.IntsAre.int_at ia i v (by rw [Array.getElem?_toList]; exact hv)
          refine ⟨zs[i], t, List.getElem?_eq_getElem hi, ?_⟩; rw [e, List.getD_eq_getElem?_getD, List.getElem?_eq_getElem hi] <;> rfl
        refine set_update_ints ((Walks.list ah3 _ l nI its).toS) s.heap.objs.size nS zs isz few at_ (its.size - 0) 0 _ (by omega) (Nat.zero_le _) ⟨⟨_, Heap.get?_push_size _ rfl, rfl, rfl⟩, (il1.push _)⟩ ?z0 ?z1
        case z0 => exact ⟨0, Nat.le_refl 0, setR_new_at (Heap.get?_push_of_some _ eS)⟩
        case z1 =>
          intro t3 c3 mv lc hS'
          obtain ⟨h', g2, d', tk', os'⟩ := t3
          have z1 : g2 = s.gens := mv.gens
          have z2 : d' = s.drawn := mv.drawn
          have z3 : os' = s.os := mv.os
          subst z1
          subst z2
          subst z3
          show wpAny _ _ _ _ _ _; refine wpAny_pure ?_
          show wpAny _ _ (ret Value.none) _ _ _; rw [isz] at lc
          refine wpAny_pure ⟨rfl, h', tk', c3, rfl, hS', lc, fun b o e => ?_⟩
          have y0 : b < s.heap.objs.size := Heap.lt_size e
          have y2 : b ≠ (s.heap.push (emp0 w)).objs.size := by rw [Heap.size_push]; exact Nat.ne_of_lt (Nat.lt_succ_of_lt y0)
          exact mv.heap b o (by simp only [List.mem_cons, List.mem_singleton, List.not_mem_nil, or_false, not_or]; exact ⟨Nat.ne_of_lt y0, y2⟩) (Heap.get?_push_of_some _ (Heap.get?_push_of_some _ e))
      · cases r2 with
        | error e => exact hr2
        | ok fl2 =>
          cases fl2 with
          | ret r =>
            obtain ⟨rfl, h', tk, c', rfl, hS', lc, hk'⟩ := hr2
            repeat (any_goals (first | assumption | wp_step))
            exact go _ _ _ hS' lc hk'
          | _ => exact hr2.elim
    | _ => exact hr.elim
end
def rSetOf (K : PySem.W.Frag) (w : World) : List V → Hp → VK → Prop := fun xs H Q => ∃ (l : Addr) (ns : List Int), xs = [.ref l] ∧ SqL K H l (ns.map V.int) ∧ ns.length < 60 ∧ ∀ p c, H p = none → c ≤ ns.length → Q (.ref p) (upd H p (SetO w p (fun j => decide (j ∈ ns)) c))
theorem rSetOf_r {K : PySem.W.Frag} {w : World} {l : Addr} {H : Hp} {Q : VK} : rSetOf K w [.ref l] H Q = ∃ ns : List Int, SqL K H l (ns.map V.int) ∧ ns.length < 60 ∧ ∀ p c, H p = none → c ≤ ns.length → Q (.ref p) (upd H p (SetO w p (fun j => decide (j ∈ ns)) c)) := propext ⟨fun ⟨_, ns, e, h⟩ => by cases e; exact ⟨ns, h⟩, fun ⟨ns, h⟩ => ⟨l, ns, rfl, h⟩⟩
theorem rSortedSet_r {w : World} {a : Addr} {H : Hp} {Q : VK} : rSortedSet w [.ref a] H Q = ∃ (S : Int → Bool) (n : Nat), H a = some (SetO w a S n) ∧ n < 64 ∧ ∀ (ns : List Int) (p : Addr), ns.Pairwise (· < ·) → (∀ k : Int, k ∈ ns ↔ S k = true) → ns.length = n → H p = none → Q (.ref p) (upd H p (.lst (ns.map V.int))) := propext ⟨fun ⟨_, S, n, e, h⟩ => by cases e; exact ⟨S, n, h⟩, fun ⟨S, n, h⟩ => ⟨a, S, n, rfl, h⟩⟩
end Bk

namespace Bk
open PySem PySem.Spec PyProof.Rows L2
/-! ### where a last stretch begins -/
def fbo (row : Nat → Int) (w : Nat → Option Int) (T : Int) : Nat → Int → Option Nat
  | 0, _ => none
  | m + 1, cost => match w m with
    | none => none
    | some p => if row m + (cost + p) = T then some m else fbo row w T m (cost + p)
theorem segP_one {w : Nat → Option Int} {m : Nat} {p : Int} (h : w m = some p) : segP w m 1 = some p := by
  unfold segP
  simp only [List.range_one, List.map_cons, List.map_nil, Nat.add_zero, h, sumO, Option.map_some]
  rw [Int.add_zero]
theorem fbo_some {row : Nat → Int} {w : Nat → Option Int} {T : Int} : ∀ {m : Nat} {c : Int} {f : Nat}, fbo row w T m c = some f → f < m ∧ ∃ s, segP w f (m - f) = some s ∧ row f + c + s = T
  | 0, c, f, h => by cases h
  | m + 1, c, f, h => by
    unfold fbo at h
    cases hw : w m with
    | none => rw [hw] at h; cases h
    | some p =>
      rw [hw] at h
      simp only at h
      by_cases e : row m + (c + p) = T
      · rw [if_pos e] at h
        cases h
        exact ⟨by omega, p, by rw [show m + 1 - m = 1 by omega]; exact segP_one hw, by omega⟩
      · rw [if_neg e] at h
        obtain ⟨h1, s, h2, h3⟩ := fbo_some h
        refine ⟨by omega, s + p, ?_, by omega⟩
        rw [show m + 1 - f = m - f + 1 by omega]
        exact segP_join 1 (m - f) h2 (by rw [show f + (m - f) = m by omega]; exact segP_one hw)
theorem fbo_ex {row : Nat → Int} {w : Nat → Option Int} {T : Int} : ∀ {m : Nat} {c : Int} {f : Nat} {s : Int}, f < m → segP w f (m - f) = some s → row f + c + s = T → ∃ f', fbo row w T m c = some f'
  | 0, c, f, s, h, _, _ => by omega
  | m + 1, c, f, s, h, h1, h2 => by
    rw [show m + 1 - f = m - f + 1 by omega] at h1
    obtain ⟨x, y, e1, e2, e3⟩ := segP_succ h1
    rw [show f + (m - f) = m by omega] at e2
    unfold fbo
    rw [e2]
    simp only
    by_cases e : row m + (c + y) = T
    · rw [if_pos e]
      exact ⟨_, rfl⟩
    · rw [if_neg e]
      by_cases hf : f = m
      · subst hf
        rw [Nat.sub_self] at e1
        have : x = 0 := (Option.some.inj e1).symm
        exact absurd (by omega) e
      · exact fbo_ex (by omega) e1 (by omega)
/-- rows of a plan: day of baking, day given -/
structure PlanOk (g : Good) (lights : Nat → Int) (n m : Nat) (es : List (Nat × Nat)) : Prop where
  days : (es.map Prod.snd).Perm ((List.range n).filter fun k => decide (m ≤ k ∧ wantN g k ≠ 0))
  price : ∀ e ∈ es, e.1 < n ∧ ∃ p, loafP g e.1 e.2 = some p
/-- what the loaves of a plan cost -/
def loavesE (g : Good) (es : List (Nat × Nat)) : Int := (es.map fun e => wantN g e.2 * (loafP g e.1 e.2).getD 0).sum
structure CheapI (g : Good) (lights row : Nat → Int) (n m : Nat) (es : List (Nat × Nat)) : Prop extends PlanOk g lights n m es where
  cost : litSum lights (fun d => ∃ e ∈ es, e.1 = d) n + loavesE g es + row m ≤ row n
/-- the rows of a stretch -/
def strE (g : Good) (b f m : Nat) : List (Nat × Nat) := (((List.range (m - f)).map fun i => f + i).filter fun k => decide (wantN g k ≠ 0)).map fun k => (b, k)
theorem rExtend_r {l b : Addr} {H : Hp} {Q : VK} : rExtend (.ref l) [.ref b] H Q = ∃ xs zs, H l = some (.lst xs) ∧ H b = some (.lst zs) ∧ xs.length + zs.length ≤ sizeLine ∧ Q .non (upd H l (.lst (xs ++ zs))) := propext ⟨fun ⟨_, _, xs, zs, e1, e2, h⟩ => by cases e1; cases e2; exact ⟨xs, zs, h⟩, fun ⟨xs, zs, h⟩ => ⟨l, b, xs, zs, rfl, rfl, h⟩⟩
theorem rSortU_r {K : PySem.W.Frag} {d : Nat} {B : Int} {a : Addr} {H : Hp} {Q : VK} : rSortU K d B [.ref a] H Q = ∃ xs : List V, SqL K H a xs ∧ xs.length < 64 ∧ (∀ x ∈ xs, ∃ ns, TupI K H x ns ∧ ns.length = d ∧ TS.Bd B ns) ∧ ∀ (ys : List V) (p : Addr), ys.Perm xs → ys.Pairwise (fun x y => ∀ n m, TupI K H x n → TupI K H y m → TS.code B n ≤ TS.code B m) → H p = none → Q (.ref p) (upd H p (.lst ys)) := propext ⟨fun ⟨_, xs, e, h⟩ => by cases e; exact ⟨xs, h⟩, fun ⟨xs, h⟩ => ⟨a, xs, rfl, h⟩⟩
theorem perm_map_inv {α β : Type} {f : α → β} : ∀ {l1 l2 : List β}, l1.Perm l2 → ∀ zs : List α, zs.map f = l1 → ∃ zs', zs.Perm zs' ∧ zs'.map f = l2 := by
  intro l1 l2 h
  induction h with
  | nil => exact fun zs e => ⟨zs, List.Perm.refl _, e⟩
  | cons x _ ih =>
    intro zs e
    cases zs with
    | nil => cases e
    | cons z zs =>
      obtain ⟨e1, e2⟩ := List.cons.inj e
      obtain ⟨zs', h1, h2⟩ := ih zs e2
      exact ⟨z :: zs', h1.cons z, by rw [List.map_cons, e1, h2]⟩
  | swap x y l =>
    intro zs e
    match zs, e with
    | a :: b :: zs, e =>
      obtain ⟨e1, e2⟩ := List.cons.inj e
      obtain ⟨e3, e4⟩ := List.cons.inj e2
      exact ⟨b :: a :: zs, List.Perm.swap b a zs, by rw [List.map_cons, List.map_cons, e1, e3, e4]⟩
  | trans _ _ ih1 ih2 =>
    intro zs e
    obtain ⟨z1, h1, h2⟩ := ih1 zs e
    obtain ⟨z2, h3, h4⟩ := ih2 z1 h2
    exact ⟨z2, h1.trans h3, h4⟩
end Bk

namespace Bk
open PySem PySem.Spec PyProof.Rows L2
/-! ### sorted(..) of tuples of whole numbers, of any number: a dict's keys, a list's items -/
def encT (b : Addr × List Int) : PyData := .tuple (b.2.map PyData.int)
theorem leT (p q : Addr × List Int) : PySem.W.dataLe false encT p q = decide (p.2 ≤ q.2) := by
  show (!PySem.W.dataLt (.tuple (q.2.map .int)) (.tuple (p.2.map .int))) = _
  have e : PySem.W.dataLt (.tuple (q.2.map .int)) (.tuple (p.2.map .int)) = PySem.W.rowLt (q.2.map .int) (p.2.map .int) := rfl
  rw [e, PySem.W.dataLt_ints]
  by_cases h : q.2 < p.2
  · rw [decide_eq_true h]
    symm
    exact decide_eq_false fun z => List.not_lt.mpr z h
  · rw [decide_eq_false h]
    symm
    exact decide_eq_true (List.not_lt.mp h)
theorem sortT_perm (L : List (Addr × List Int)) : (L.mergeSort (PySem.W.dataLe false encT)).Perm L := List.mergeSort_perm L _
theorem sortT_sorted (L : List (Addr × List Int)) : (L.mergeSort (PySem.W.dataLe false encT)).Pairwise (fun p q => p.2 ≤ q.2) := by
  have h := List.pairwise_mergeSort (le := PySem.W.dataLe false encT) (fun a b c h1 h2 => by
    rw [leT] at h1 h2 ⊢
    exact decide_eq_true (List.le_trans (of_decide_eq_true h1) (of_decide_eq_true h2))) (fun a b => by
    rw [leT, leT]
    rcases List.le_total a.2 b.2 with h | h
    · rw [decide_eq_true h]; rfl
    · rw [decide_eq_true h, Bool.or_true]) L
  exact h.imp fun {x y} z => by rw [leT] at z; exact of_decide_eq_true z
theorem reads_ints {h : Heap} : ∀ {ns : List Int} {us : List Value}, Vals (ns.map V.int) us → ReadsAll h us (ns.map PyData.int) []
  | [], us, r => by
    cases r
    exact .nil
  | n :: ns, us, r => by
    cases r with
    | cons h1 h2 =>
      obtain ⟨t, rfl⟩ := h1
      exact ReadsAll.cons (.int n t) (reads_ints h2)
/-- a tracked tuple of whole numbers, read -/
theorem reads_tupI {X : Cx} {pins : List (Addr × Obj)} {σ : L2.St} {H : Hp} {s : Shared} (I : Inv X pins σ H s) {a : Addr} {ns : List Int} (h : H a = some (.tup (ns.map V.int))) : Reads s.heap (.ref a) (.tuple (ns.map PyData.int)) [] := by
  obtain ⟨_, its, rv, o, ho, hc, n, hd⟩ := (show ObjOk X.prog X.w H s.heap a (.tup _) from I.hok a _ h)
  exact Reads.tuple ho hc hd (by simpa using reads_ints rv)
theorem alikeT {L : List (Addr × List Int)} : PySem.W.AllAlike (L.map encT) := PySem.W.AllAlike.of fun b b' => by
  show PySem.W.alikeAll _ _ = true
  exact PySem.W.alike_ints b.2 b'.2
theorem sortableT {L : List (Addr × List Int)} (h : ∀ p ∈ L, p.2 ≠ []) : PySem.W.Sortable (L.map encT) := .inl fun d hd => by
  obtain ⟨b, hb, rfl⟩ := List.mem_map.mp hd
  obtain ⟨a, ns⟩ := b
  cases ns with
  | nil => exact absurd rfl (h _ hb)
  | cons x r => exact ⟨.int x, r.map .int, rfl⟩
theorem depthT (b : Addr × List Int) : (encT b).depth = 1 := by
  show PyData.depth (.tuple _) = 1
  rw [PyData.depth, PySem.W.depth_ints]
def rSorDT : List V → Hp → VK → Prop := fun xs H Q => ∃ (a : Addr) (kvs : List (List Key × V)) (ks : List (List Int)), xs = [.ref a] ∧ H a = some (.dT kvs) ∧ kvs.map (·.1) = ks.map (fun k => k.map Sum.inl) ∧ (∀ k ∈ ks, k ≠ []) ∧
  ∀ (L : List (Addr × List Int)) (p : Addr), (L.map (·.2)).Perm ks → L.Pairwise (fun p q => p.2 ≤ q.2) → (∀ q ∈ L, H q.1 = some (.tup (q.2.map V.int))) → H p = none → Q (.ref p) (upd H p (.lst (L.map fun q => V.ref q.1)))
theorem each_refs : ∀ (L : List (Addr × List Int)), PySem.W.EachIs (fun (v : Value) (b : Addr × List Int) => v = .ref b.1) (L.map fun b => Value.ref b.1) L
  | [] => .nil
  | b :: r => .cons rfl (each_refs r)
theorem of_each_refs : ∀ {vs : List Value} {L : List (Addr × List Int)}, PySem.W.EachIs (fun (v : Value) (b : Addr × List Int) => v = .ref b.1) vs L → vs = L.map fun b => Value.ref b.1
  | _, _, .nil => rfl
  | _, _, .cons h t => by rw [List.map_cons, ← of_each_refs t, h]
theorem each_of {R : Value → (Addr × List Int) → Prop} : ∀ (L : List (Addr × List Int)), (∀ b ∈ L, R (.ref b.1) b) → PySem.W.EachIs R (L.map fun b => Value.ref b.1) L
  | [], _ => .nil
  | b :: r, h => .cons (h b List.mem_cons_self) (each_of r fun c hc => h c (List.mem_cons_of_mem _ hc))
theorem keys_int {ks : List Int} : (ks.map Sum.inl : List Key).map kV = ks.map V.int := by
  rw [List.map_map]
  rfl
theorem cr_sorDT {X : Cx} (hc : X.calm = true) (hu : X.A.units + 64 < cLine) : CallR X (.builtin "sorted") rSorDT := by
  intro pins s σ H xs us Q I r q
  obtain ⟨a, kvs, ks, rfl, hd, hks, hne, q⟩ := q
  rw [Vals.ref1 r]
  obtain ⟨z, hs, xs, pr, o, es, ep, ho, hx, hdt, he, hn⟩ := (show ObjOk X.prog X.w H s.heap a (.dT kvs) from I.hok a _ hd)
  have l1 : es.size = xs.length := size_of_entries he
  have l2 : kvs.length = xs.length := Paired.length pr
  -- the keys, each with its address
  have hL : ∃ L : List (Addr × List Int), L.map (·.2) = ks ∧ (xs.map fun x => x.2.1) = L.map (·.1) ∧ ∀ b ∈ L, H b.1 = some (.tup (b.2.map V.int)) := by
    clear he hn l1 l2 hd hne q z
    induction pr generalizing ks with
    | nil =>
      cases ks with
      | nil => exact ⟨[], rfl, rfl, fun b hb => by cases hb⟩
      | cons k r => cases hks
    | cons h t ih =>
      cases ks with
      | nil => cases hks
      | cons k r =>
        rw [List.map_cons, List.map_cons] at hks
        obtain ⟨e1, e2⟩ := List.cons.inj hks
        obtain ⟨L, g1, g2, g3⟩ := ih r e2
        refine ⟨(_, k) :: L, by rw [List.map_cons, g1], by rw [List.map_cons, List.map_cons, g2], fun b hb => ?_⟩
        rcases List.mem_cons.mp hb with e | hb
        · rw [e]
          have h2 := h.2.1
          rw [e1, keys_int] at h2
          exact h2
        · exact g3 b hb
  obtain ⟨L, g1, g2, g3⟩ := hL
  have hlen : L.length = xs.length := by
    have := congrArg List.length g2
    rw [List.length_map, List.length_map] at this
    omega
  refine Calls.call_function_entry PyProof.Rows.kind_sorted PyProof.Rows.plain_sorted PyProof.Rows.entry_sorted (PyProof.Rows.args_sorted1 _) ?_
  unfold Builtin.«sorted»
  refine wpAny_bind (m := checkCount "sorted" 1 1 _) (wpAny_pure ?_)
  refine wpAny_bind (PySem.W.kdu_collect (A := X.A.in1) (kdl_raw hs hx hdt) (I.ok.hd hc) ho (by omega) fun h' tk acc kp hacc => ?_)
  have ea : acc.toList = L.map fun b => Value.ref b.1 := by
    have e0 : (L.map fun b => Value.ref b.1) = xs.map fun x => Value.ref x.2.1 := by
      have := congrArg (List.map Value.ref) g2
      rw [List.map_map, List.map_map] at this
      exact this.symm
    rw [e0]
    have hl : acc.toList.length = xs.length := by rw [Array.length_toList, hacc.1]; exact l1
    apply List.ext_getElem?
    intro j
    rw [List.getElem?_map]
    by_cases hj : j < xs.length
    · obtain ⟨v, hv⟩ : ∃ v, acc.toList[j]? = some v := ⟨_, List.getElem?_eq_getElem (by omega)⟩
      obtain ⟨en, hen, rfl⟩ := hacc.2 j v (by rw [← Array.getElem?_toList]; exact hv)
      have qe := entry_at he j
      rw [hen, List.getElem?_eq_getElem hj] at qe
      rw [hv, List.getElem?_eq_getElem hj]
      cases Option.some.inj qe
      rfl
    · rw [List.getElem?_eq_none (by omega), List.getElem?_eq_none (by omega)]
      rfl
  have I1 : Inv X pins σ H { s with heap := h', toks := tk } := I.kept kp
  rw [ea]
  refine wpAny_bind (wpAny_newList ?_ (by rw [List.length_map]; omega))
  have hoL : (h'.push (seqObj "list" (L.map fun b => Value.ref b.1).toArray 0)).get? h'.objs.size = some (seqObj "list" (L.map fun b => Value.ref b.1).toArray 0) := Heap.get?_push_size _ rfl
  show wpAny _ _ _ _ _ { s with heap := h'.push (seqObj "list" (L.map fun b => Value.ref b.1).toArray 0), toks := tk }
  refine wpAny_bind (wpAny_holding (PySem.W.list_sort_data (s := { s with heap := h'.push (seqObj "list" (L.map fun b => Value.ref b.1).toArray 0), toks := tk }) (enc := encT) (bs := L) hoL (each_refs L) (each_of L fun b hb => ?_) alikeT (sortableT fun p hp => hne _ (by rw [← g1]; exact List.mem_map.mpr ⟨_, hp, rfl⟩)) (by omega) (fun b hb => ?_) fun out hlo hout => ?_))
  · exact ⟨[], PyProof.Rows.Reads.keeps (fun _ _ e => Heap.get?_push_of_some _ e) (reads_tupI I1 (g3 b hb)), by simp⟩
  · rw [depthT]
    show X.A.in1.units + 1 + 1 < cLine
    have : X.A.in1.units = X.A.units + 1 := rfl
    omega
  · have eo := of_each_refs hout
    obtain ⟨e', he'⟩ := PyProof.Rows.sortedHeap_at (vs := L.map fun b => Value.ref b.1) (out := out.toArray) hoL
    refine wpAny_pure ⟨_, rfl, .ref h'.objs.size, upd H h'.objs.size (.lst ((L.mergeSort (PySem.W.dataLe false encT)).map fun q => V.ref q.1)), I1.laid (t' := tk) (fun b u e => ?_) (Nat.le_refl _) ⟨?_, out, e', ?_, he'⟩, rfl, q _ _ ?_ (sortT_sorted L) (fun b hb => g3 b ((sortT_perm L).mem_iff.mp hb)) (I1.hok.fresh (Nat.le_refl _))⟩
    · rw [PyProof.Rows.sortedHeap_old (Nat.ne_of_lt (Heap.lt_size e)) (by
        show b < (h'.push _).objs.size
        rw [size_push']
        exact Nat.lt_succ_of_lt (Heap.lt_size e))]
      exact Heap.get?_push_of_some _ e
    · rw [List.length_map, (sortT_perm L).length_eq]
      omega
    · rw [eo]
      have := vals_refs ((L.mergeSort (PySem.W.dataLe false encT)).map (·.1))
      rw [List.map_map, List.map_map] at this
      exact this
    · rw [← g1]
      exact (sortT_perm L).map _
end Bk

namespace Bk
open PySem PySem.Spec PyProof.Rows L2
/-! ### {a for a, b, c, d in xs}: the first parts of a list's tuples, whole numbers, as a set -/
theorem ns_at2 {h h' : Heap} {C : Addr} {m : Str → Option Value} (n : h.Ns C m) (k : ∀ o, h.get? C = some o → h'.get? C = some o) : h'.Ns C m := by
  obtain ⟨o, es, ep, ho, r⟩ := n
  exact ⟨o, es, ep, k o ho, r⟩
/-- different whole numbers below N -/
theorem few_ints {N : Nat} {ds : List Int} (h : ds.Nodup) (hb : ∀ d ∈ ds, 0 ≤ d ∧ d < N) : ds.length ≤ N := by
  have e : (ds.map Int.toNat).length ≤ N := by
    refine nodup_len ?_ fun m hm => ?_
    · rw [List.nodup_iff_pairwise_ne, List.pairwise_map]
      refine (List.nodup_iff_pairwise_ne.mp h).imp_of_mem fun {x y} hx hy z => ?_
      have := hb x hx
      have := hb y hy
      omega
    · obtain ⟨d, hd, rfl⟩ := List.mem_map.mp hm
      have := hb d hd
      omega
  rw [List.length_map] at e
  exact e
section
variable {X : Cx}
/-- what stands while the block runs -/
structure Runs2 (X : Cx) (s1 : Shared) (D C : Addr) (zs : List (Addr × Int)) (i : Nat) (t : Shared) : Prop where
  only : ∃ h tk, t = { s1 with heap := h, toks := tk }
  old : ∀ b o, s1.heap.get? b = some o → t.heap.get? b = some o
  set : ∃ ds : List Int, ds.Nodup ∧ (∀ d ∈ ds, d ∈ (zs.take i).map (·.2)) ∧ SetR X.w t.heap D (fun j => decide (j ∈ (zs.take i).map (·.2))) ds.length
  names : ∃ m, t.heap.Ns C m
theorem Runs2.other {s1 t : Shared} {D C It : Addr} {zs : List (Addr × Int)} {i : Nat} (g : Runs2 X s1 D C zs i t) (hI : s1.heap.objs.size ≤ It) (hD : D ≠ It) (hC : C ≠ It) {h' : Heap} {tk : Nat} (k : ∀ b o, b ≠ It → t.heap.get? b = some o → h'.get? b = some o) : Runs2 X s1 D C zs i { t with heap := h', toks := tk } := by
  obtain ⟨h, tk0, e⟩ := g.only
  obtain ⟨n, hn1, hn, hs⟩ := g.set
  obtain ⟨m, hm⟩ := g.names
  subst e
  refine ⟨⟨h', tk, rfl⟩, fun b o q => k b o (fun z => ?_) (g.old b o q), ⟨n, hn1, hn, hs.at fun o q => k D o hD q⟩, ⟨m, ns_at2 hm fun o q => k C o hC q⟩⟩
  exact Nat.lt_irrefl _ (Nat.lt_of_lt_of_le (z ▸ Heap.lt_size q) hI)
def tScT2 (K : PySem.W.Frag) (w : World) (at2 : Bool) (te : TE) : TE := fun σ H Q => te σ H fun x H1 => ∃ (p : Addr) (zs : List (Addr × Int)) (N : Nat), x = .ref p ∧ SqL K H1 p (zs.map fun z => V.ref z.1) ∧ (∀ z ∈ zs, ∃ a b c d, SqT K H1 z.1 [a, b, c, d] ∧ (if at2 = true then b else a) = .int z.2) ∧ (∀ z ∈ zs, 0 ≤ z.2 ∧ z.2 < N) ∧ N < 60 ∧ ∀ D n, H1 D = none → n ≤ N → Q (.ref D) (upd H1 D (SetO w D (fun j => decide (j ∈ zs.map (·.2))) n))
theorem pe_scT2 {at2 : Bool} {xe xa xb xc xd : Str} {pa pb pc pd pel tp pos : Pos} {kk : Nat} {iter : Expr} {scope : Scope} {te : TE} (hc : X.calm = true) (he : PE X iter te) (hfree : scope.names.all (fun y => y.2 == .local) = true) (hkind : scope.kind = .function)
    (la : scope.names.lookup xa = some .local) (lb : scope.names.lookup xb = some .local) (lc : scope.names.lookup xc = some .local) (ld : scope.names.lookup xd = some .local) (hnames : ∀ y ∈ scope.names, y.2 = .local → scope.names.lookup y.1 = some .local)
    (hex : xe = if at2 = true then xb else xa) (hne : xa ≠ xb ∧ xa ≠ xc ∧ xa ≠ xd ∧ xb ≠ xc ∧ xb ≠ xd) (hdb : (xe == ("__debug__" : Str)) = false := by decide) (hs : ∀ x, foldedSetIterable iter X.env x = pure x := by intro _; rfl) :
    PE X (.SetComp (.Name xe pel) [⟨.Tuple [.Name xa pa, .Name xb pb, .Name xc pc, .Name xd pd] kk tp, iter, [], 0⟩] scope pos) (tScT2 X.K X.w at2 te) := by
  have hlocal : ∀ y ∈ scope.names, y.2 = .local := fun y hy => by
    have := List.all_eq_true.mp hfree y hy
    simpa using this
  have hclos := closure_ok (scope := scope) (env := X.env) fun y hy z => by rw [hlocal y hy] at z; cases z
  generalize cloFrom X.env.cells scope.names [] = cl at hclos
  have kin : ∀ {C : Addr} {x : Str}, scope.names.lookup x = some .local → (compEnvC scope cl C X.env).kindOf x = some .local := fun hx => lookup_relabel_local hx
  have kE : ∀ {C : Addr}, (compEnvC scope cl C X.env).kindOf xe = some .local := fun {C} => by
    rw [hex]
    cases at2 with
    | true => exact kin lb
    | false => exact kin la
  refine ⟨fun pins s σ H Q I h => ?_⟩
  have hh : X.A.handled = none := I.ok.hd hc
  refine SetComp_goes hclos (fun y hy z => by rw [hlocal y hy] at z; cases z) hkind hnames (thn (he.run pins s σ H _ I h) fun v s1 hv => ?_) hs
  obtain ⟨x, H1, I1, r1, p, zs, N, ex, hl, hz, hzN, hN, q⟩ := hv
  subst ex
  obtain rfl : v = Value.ref p := r1
  obtain ⟨its, rel, hli, hsz⟩ := I1.list hl
  have hlen := rel.length
  rw [List.length_map] at hlen
  refine wpAny_pyIter_list hli.isList ?_
  generalize hIt : s1.heap.objs.size = It
  have hpI : p ≠ It := fun z => by
    obtain ⟨o, ho, _⟩ := hli.isList
    exact Nat.lt_irrefl _ (hIt ▸ z ▸ Heap.lt_size ho)
  have keep1 : ∀ b o, s1.heap.get? b = some o → (s1.heap.push { cls := .type "list_iterator", data := .fields #[.ref p, .int 0 0] }).get? b = some o := fun b o e => Heap.get?_push_of_some _ e
  refine ⟨It, [It, p], [It], its.toArray.size, _, _, rfl, Goes.list hh It p hpI its.toArray, ⟨?_, ?_⟩, fun D C s3 hb hD => ?_⟩
  · rw [← hIt]
    exact ⟨_, Heap.get?_push_size _ rfl, rfl, rfl⟩
  · obtain ⟨o, ho, r⟩ := hli.isList
    exact ⟨o, keep1 _ _ ho, r⟩
  obtain ⟨h3, tk3, e3⟩ := hb.only
  subst e3
  have sz2 : (s1.heap.push { cls := .type "list_iterator", data := .fields #[.ref p, .int 0 0] }).objs.size = It + 1 := by rw [Heap.size_push, hIt]
  have hDn : It + 1 ≤ D := by rw [← sz2]; exact hb.newD
  have hCn : It + 1 ≤ C := by rw [← sz2]; exact hb.newC
  have nDI : D ≠ It := fun z => by rw [z] at hDn; exact Nat.lt_irrefl _ hDn
  have nCI : C ≠ It := fun z => by rw [z] at hCn; exact Nat.lt_irrefl _ hCn
  have under : ∀ {b o}, s1.heap.get? b = some o → b ≠ D ∧ b ≠ C := fun {b o} e => by
    have hlt : b < It := hIt ▸ Heap.lt_size e
    exact ⟨fun z => Nat.lt_irrefl _ (Nat.lt_of_lt_of_le (z ▸ hlt) (Nat.le_of_succ_le hDn)), fun z => Nat.lt_irrefl _ (Nat.lt_of_lt_of_le (z ▸ hlt) (Nat.le_of_succ_le hCn))⟩
  refine ⟨Runs2 X s1 D C zs, ⟨⟨h3, tk3, rfl⟩, fun b o e => hb.old b o (keep1 b o e), ⟨[], List.nodup_nil, (fun d hd => by cases hd), ?_⟩, ⟨_, hb.names⟩⟩, fun i t h' tk g k _ => g.other (Nat.le_of_eq hIt) nDI nCI fun b o hbI e => k b o (by simpa using hbI) e, fun i v t hi hY hSt g => ?_, fun t g => ?_⟩
  · rw [show (fun j : Int => decide (j ∈ (zs.take 0).map (·.2))) = fun _ => false by funext j; simp]
    obtain ⟨o, es, ep, tt, ho, r⟩ := setR_fresh (h := s1.heap) X.w
    rw [Heap.get?_push_size _ rfl] at ho
    cases ho
    exact ⟨_, es, ep, tt, hD, r⟩
  · obtain ⟨ht0, tk0, e0⟩ := g.only
    subst e0
    have hY : its[i]? = some v := by simpa using hY
    have hiz : i < zs.length := by
      have h1 := (List.getElem?_eq_some_iff.mp hY).1
      omega
    have hzi : zs[i]? = some zs[i] := List.getElem?_eq_getElem hiz
    have hzm := List.getElem_mem hiz
    generalize zs[i] = z at hzi hzm
    obtain ⟨u, hu, ru⟩ := rel.get (i := i) (x := V.ref z.1) (by rw [List.getElem?_map, hzi]; rfl)
    rw [hY] at hu
    cases hu
    obtain rfl : v = Value.ref z.1 := ru
    obtain ⟨a, b, c, d, hq, hpick⟩ := hz z hzm
    have It0 : Inv X pins σ H1 { s1 with heap := ht0, toks := tk0 } := I1.kept (t' := tk0) g.old
    obtain ⟨us, rel4, ht4, _⟩ := It0.tuple hq
    obtain ⟨v1, v2, v3, v4, rfl, rv⟩ : ∃ v1 v2 v3 v4, us = [v1, v2, v3, v4] ∧ RelV (.int z.2) (if at2 = true then v2 else v1) := by
      cases rel4 with
      | cons r1 t1 => cases t1 with
      | cons r2 t2 => cases t2 with
      | cons r3 t3 => cases t3 with
      | cons r4 t4 =>
      cases t4
      refine ⟨_, _, _, _, rfl, ?_⟩
      rw [← hpick]
      cases at2 with
      | true => exact r2
      | false => exact r1
    obtain ⟨tkv, ev⟩ := rv
    obtain ⟨n0, hn1, hn0, hset⟩ := g.set
    obtain ⟨m0, hns⟩ := g.names
    have hp0 : ((compEnvC scope cl C X.env).scope.kind == .class || ((compEnvC scope cl C X.env).scope.kind == .module && (compEnvC scope cl C X.env).locals != (compEnvC scope cl C X.env).globals)) = false := by
      show (scope.kind == .class || (scope.kind == .module && _)) = false
      rw [hkind]
      rfl
    refine assign_Tuple_tuple hh ht4 rfl rfl fun h5 ext => ?_
    have k5 : ∀ b o, ht0.get? b = some o → h5.get? b = some o := fun b o e => ext b o (fun zz => Nat.lt_irrefl _ (zz ▸ Heap.lt_size e)) e
    refine wpAny_bind (wpAny_holding (wpAny_assign_Name (wpAny_storeName_local (kin la) (ns_at2 hns fun o e => k5 C o e) (fun h6 n6 b6 => ?_) hp0)))
    refine wpAny_bind (wpAny_holding (wpAny_assign_Name (wpAny_storeName_local (kin lb) n6 (fun h7 n7 b7 => ?_) hp0)))
    refine wpAny_bind (wpAny_holding (wpAny_assign_Name (wpAny_storeName_local (kin lc) n7 (fun h8 n8 b8 => ?_) hp0)))
    refine wpAny_bind (wpAny_holding (wpAny_assign_Name (wpAny_storeName_local (kin ld) n8 (fun h9 n9 b9 => ?_) hp0)))
    refine wpAny_pure ?_
    have k9 : ∀ b o, b ≠ C → ht0.get? b = some o → h9.get? b = some o := fun b o hbC e => by
      rw [b9.2 b hbC, b8.2 b hbC, b7.2 b hbC, b6.2 b hbC]
      exact k5 b o e
    show wpAny _ _ (pure true) _ _ _
    refine wpAny_pure ?_
    rw [if_pos rfl]
    refine wpAny_Name (wpAny_loadName_local (v := Value.int z.2 tkv) hkind kE n9 ?_ ?_) hdb
    · show (if xe = xd then some v4 else if xe = xc then some v3 else if xe = xb then some v2 else if xe = xa then some v1 else m0 xe) = _
      rw [hex]
      cases at2 with
      | true =>
        have ev : v2 = Value.int z.2 tkv := ev
        simp only [if_true]
        rw [if_neg hne.2.2.2.2, if_neg hne.2.2.2.1, ev]
      | false =>
        have ev : v1 = Value.int z.2 tkv := ev
        simp only [Bool.false_eq_true, if_false]
        rw [if_neg hne.2.2.1, if_neg hne.2.1, if_neg hne.1, ev]
        first | rfl | rw [if_pos rfl]
    have nDC : D ≠ C := hb.ne
    refine setR_add (hset.at fun o e => k9 D o nDC e) ?_ fun hA bA nA => ?_
    · have h40 : n0.length ≤ N := few_ints hn1 fun d hd => by
        obtain ⟨z', hz', rfl⟩ := List.mem_map.mp (hn0 d hd)
        exact hzN z' (List.mem_of_mem_take hz')
      have : n0.length + 1 < 64 := by omega
      exact Nat.lt_of_lt_of_le this (by decide)
    have kA : ∀ b o, b ≠ C → b ≠ D → ht0.get? b = some o → hA.get? b = some o := fun b o h1 h2 e => by rw [bA.2 b h2]; exact k9 b o h1 e
    refine ⟨⟨⟨hA, _, rfl⟩, fun b o e => kA b o (under e).2 (under e).1 (g.old b o e), ⟨if decide (z.2 ∈ (zs.take i).map (·.2)) = true then n0 else n0 ++ [z.2], ?_, ?_, ?_⟩, ⟨_, ns_at2 n9 fun o e => by rw [bA.2 C (Ne.symm nDC)]; exact e⟩⟩, ?_⟩
    · split
      · exact hn1
      · rename_i hni
        rw [List.nodup_append]
        refine ⟨hn1, by simp, fun a ha b hb e => ?_⟩
        rw [List.mem_singleton.mp hb] at e
        rw [e] at ha
        exact hni (decide_eq_true (hn0 _ ha))
    · intro d hd
      rw [List.take_add_one, hzi, List.map_append, List.mem_append]
      split at hd
      · exact .inl (hn0 d hd)
      · rcases List.mem_append.mp hd with hd | hd
        · exact .inl (hn0 d hd)
        · rw [List.mem_singleton.mp hd]
          exact .inr (by simp)
    · have eS : (fun j => decide (j ∈ (zs.take i).map (·.2)) || decide (j = z.2)) = fun j => decide (j ∈ (zs.take (i + 1)).map (·.2)) := by
        funext j
        rw [List.take_add_one, hzi, List.map_append, Bool.eq_iff_iff, Bool.or_eq_true, decide_eq_true_eq, decide_eq_true_eq, decide_eq_true_eq, List.mem_append]
        simp
      rw [← eS]
      have el : (if decide (z.2 ∈ (zs.take i).map (·.2)) = true then n0 else n0 ++ [z.2]).length = if decide (z.2 ∈ (zs.take i).map (·.2)) = true then n0.length else n0.length + 1 := by
        split
        · rfl
        · rw [List.length_append, List.length_singleton]
      rw [el]
      exact nA
    · refine (Goes.list (prog := X.prog) (w := X.w) (target := .Tuple [.Name xa pa, .Name xb pb, .Name xc pc, .Name xd pd] kk tp) hh It p hpI its.toArray).frame _ _ _ hSt fun b hbm o e => ?_
      rcases List.mem_cons.mp hbm with rfl | hbm
      · exact kA _ o (Ne.symm nCI) (Ne.symm nDI) e
      · rw [List.mem_singleton.mp hbm] at e ⊢
        obtain ⟨op, hop, _⟩ := hli.isList
        exact kA _ o (under hop).2 (under hop).1 e
  · obtain ⟨ht0, tk0, e0⟩ := g.only
    obtain ⟨n0, hn1, hn0, hset⟩ := g.set
    obtain ⟨m0, hns⟩ := g.names
    subst e0
    have nDC : D ≠ C := hb.ne
    have hil : its.toArray.size = zs.length := by rw [List.size_toArray]; omega
    rw [hil] at hn0 hset
    rw [List.take_length] at hset
    refine ⟨m0, hns, fun h' sb => ?_⟩
    have gone : s1.heap.get? D = none := by
      cases e : s1.heap.get? D with
      | none => rfl
      | some o => exact absurd rfl (under e).1
    have nH : H1 D = none := I1.hok.gone gone
    have hset' : SetR X.w h' D (fun j => decide (j ∈ zs.map (·.2))) n0.length := hset.at fun o e => by rw [sb.2 D nDC]; exact e
    exact ⟨.ref D, _, I1.laidN (h' := h') (t' := tk0) (fun b o e => by rw [sb.2 b (under e).2]; exact g.old b o e) gone nH (setO_new hset'), rfl, q D _ nH (few_ints hn1 fun d hd => by
      rw [List.take_length] at hn0
      obtain ⟨z', hz', rfl⟩ := List.mem_map.mp (hn0 d hd)
      exact hzN z' hz')⟩
end
end Bk

namespace Bk
open PySem PySem.Spec PyProof.Rows L2
/-! ### a def that asks repr, called where no text of a container is being written -/
structure DefG (P : Program) (w : World) (K : PySem.W.Frag) (mg : Str → Option Value) (base : Heap) (x : Str) (k : Nat) (ps : List Str) (sp : Sp) : Prop where
  ex : ∃ (f : Addr) (fd : FuncData), mg x = some (.ref f) ∧ PySem.W.keepIn K (.ref f) = true ∧ Binds K fd ps [] ∧ RunG P w K mg base k f fd ps sp
end Bk

namespace Bk
open PySem PySem.Spec PyProof.Rows L2
/-! ### rows of four whole numbers, and lists of them -/
abbrev K3 := Nat × Nat × Nat
structure Row4 where
  a : Nat
  b : Nat
  c : Nat
  m : Int
def Row4.k (r : Row4) : K3 := (r.a, r.b, r.c)
def rowD (r : Row4) : PyData := .tuple [.int (r.a : Int), .int (r.b : Int), .int (r.c : Int), .int r.m]
def planD (L : List Row4) : PyData := .list (L.map rowD)
theorem Th.row {K : PySem.W.Frag} {H : Hp} {x : V} {r : Row4} (h : Th K H x (rowD r)) : ∃ t, x = .ref t ∧ SqT K H t [.int (r.a : Int), .int (r.b : Int), .int (r.c : Int), .int r.m] := by
  cases h with
  | tup ht hta =>
  cases hta with
  | cons t1 hta => cases hta with
  | cons t2 hta => cases hta with
  | cons t3 hta => cases hta with
  | cons t4 hta =>
  cases hta
  cases t1; cases t2; cases t3; cases t4
  exact ⟨_, rfl, ht⟩
theorem rows_of {K : PySem.W.Frag} {H : Hp} : ∀ {xs : List V} {L : List Row4}, ThAll K H xs (L.map rowD) → ∃ zs : List (Addr × Row4), xs = zs.map (fun z => V.ref z.1) ∧ zs.map (·.2) = L ∧ ∀ z ∈ zs, SqT K H z.1 [.int (z.2.a : Int), .int (z.2.b : Int), .int (z.2.c : Int), .int z.2.m]
  | xs, [], h => by
    have h : ThAll K H xs [] := h
    cases h
    exact ⟨[], rfl, rfl, fun z hz => by cases hz⟩
  | xs, r :: L, h => by
    have h : ThAll K H xs (rowD r :: L.map rowD) := h
    cases h with
    | cons h1 h2 =>
      obtain ⟨zs, e1, e2, e3⟩ := rows_of h2
      obtain ⟨t, rfl, ht⟩ := h1.row
      refine ⟨(t, r) :: zs, by rw [e1]; rfl, by rw [List.map_cons, e2], fun z hz => ?_⟩
      rcases List.mem_cons.mp hz with rfl | hz
      · exact ht
      · exact e3 z hz
theorem Th.plan {K : PySem.W.Frag} {H : Hp} {x : V} {L : List Row4} (h : Th K H x (planD L)) : ∃ (p : Addr) (zs : List (Addr × Row4)), x = .ref p ∧ SqL K H p (zs.map fun z => V.ref z.1) ∧ zs.map (·.2) = L ∧ ∀ z ∈ zs, SqT K H z.1 [.int (z.2.a : Int), .int (z.2.b : Int), .int (z.2.c : Int), .int z.2.m] := by
  cases h with
  | lst hl ht =>
    obtain ⟨zs, e1, e2, e3⟩ := rows_of ht
    subst e1
    exact ⟨_, zs, rfl, hl, e2, e3⟩
def SmallR (L : List Row4) : Prop := L.length ≤ 500 ∧ ∀ r ∈ L, r.a < 1000 ∧ r.b < 1000 ∧ r.c < 1000 ∧ r.m.natAbs < 10 ^ 12
/-! ### dicts whose keys are three numbers -/
def key3 (k : K3) : List Key := [Sum.inl (k.1 : Int), Sum.inl (k.2.1 : Int), Sum.inl (k.2.2 : Int)]
def keyI3 (k : K3) : List Int := [(k.1 : Int), (k.2.1 : Int), (k.2.2 : Int)]
theorem keyI3_inj {k j : K3} (h : keyI3 k = keyI3 j) : k = j := by
  obtain ⟨a, b, c⟩ := k
  obtain ⟨x, y, z⟩ := j
  simp only [keyI3, List.cons.injEq, and_true] at h
  obtain ⟨h1, h2, h3⟩ := h
  rw [show a = x by omega, show b = y by omega, show c = z by omega]
theorem key3_inj {k j : K3} : key3 k = key3 j ↔ k = j := by
  constructor
  · intro h
    refine keyI3_inj ?_
    unfold key3 at h
    unfold keyI3
    simp only [List.cons.injEq, and_true] at h
    obtain ⟨h1, h2, h3⟩ := h
    injection h1 with h1
    injection h2 with h2
    injection h3 with h3
    rw [h1, h2, h3]
  · intro h
    rw [h]
abbrev E3 := List (K3 × Int)
def mk3 (es : E3) : List (List Key × V) := es.map fun e => (key3 e.1, V.int e.2)
def look3 (es : E3) (k : K3) : Option Int := (es.find? fun e => decide (e.1 = k)).map (·.2)
def put3 (es : E3) (k : K3) (v : Int) : E3 := if (es.any fun e => decide (e.1 = k)) = true then es.map (fun e => if e.1 = k then (e.1, v) else e) else es ++ [(k, v)]
def add3 (es : E3) (k : K3) (m : Int) : E3 := put3 es k ((look3 es k).getD 0 + m)
theorem mk3_len (es : E3) : (mk3 es).length = es.length := by unfold mk3; rw [List.length_map]
theorem mk3_put (es : E3) (k : K3) (v : Int) : putK (mk3 es) (key3 k) (.int v) = mk3 (put3 es k v) := by
  unfold putK put3
  have e : ((mk3 es).any fun kv => decide (kv.1 = key3 k)) = es.any fun e => decide (e.1 = k) := by
    unfold mk3
    rw [List.any_map]
    congr 1
    funext x
    exact decide_eq_decide.mpr key3_inj
  rw [e]
  by_cases h : (es.any fun e => decide (e.1 = k)) = true
  · rw [if_pos h, if_pos h]
    unfold mk3
    rw [List.map_map, List.map_map]
    congr 1
    funext x
    show (if key3 x.1 = key3 k then (key3 x.1, V.int v) else (key3 x.1, V.int x.2)) = _
    by_cases hx : x.1 = k
    · rw [if_pos (key3_inj.mpr hx)]
      show _ = (key3 (if x.1 = k then (x.1, v) else x).1, V.int (if x.1 = k then (x.1, v) else x).2)
      rw [if_pos hx]
    · rw [if_neg fun z => hx (key3_inj.mp z)]
      show _ = (key3 (if x.1 = k then (x.1, v) else x).1, V.int (if x.1 = k then (x.1, v) else x).2)
      rw [if_neg hx]
  · rw [if_neg h, if_neg h]
    unfold mk3
    rw [List.map_append]
    rfl
theorem mk3_val (es : E3) (k : K3) : valV (mk3 es) (key3 k) = (look3 es k).map V.int := by
  unfold valV look3
  induction es with
  | nil => rfl
  | cons e r ih =>
    show Option.map _ (List.find? _ ((key3 e.1, V.int e.2) :: mk3 r)) = _
    by_cases h : e.1 = k
    · rw [List.find?_cons_of_pos (p := fun kv : List Key × V => decide (kv.1 = key3 k)) (decide_eq_true (key3_inj.mpr h)), List.find?_cons_of_pos (p := fun e : K3 × Int => decide (e.1 = k)) (decide_eq_true h)]
      rfl
    · rw [List.find?_cons_of_neg (p := fun kv : List Key × V => decide (kv.1 = key3 k)) (fun z => h (key3_inj.mp (of_decide_eq_true z))), List.find?_cons_of_neg (p := fun e : K3 × Int => decide (e.1 = k)) (fun z => h (of_decide_eq_true z))]
      exact ih
theorem look3_mem {es : E3} {k : K3} {v : Int} (hn : (es.map (·.1)).Nodup) (h : (k, v) ∈ es) : look3 es k = some v := by
  induction es with
  | nil => cases h
  | cons e r ih =>
    rw [List.map_cons, List.nodup_cons] at hn
    unfold look3
    by_cases he : e.1 = k
    · rw [List.find?_cons_of_pos (p := fun e : K3 × Int => decide (e.1 = k)) (decide_eq_true he)]
      rcases List.mem_cons.mp h with h | h
      · rw [← h]; rfl
      · exact absurd (List.mem_map.mpr ⟨_, h, he.symm⟩) hn.1
    · rw [List.find?_cons_of_neg (p := fun e : K3 × Int => decide (e.1 = k)) (fun z => he (of_decide_eq_true z))]
      rcases List.mem_cons.mp h with h | h
      · rw [← h] at he
        exact absurd rfl he
      · exact ih hn.2 h
/-- what all entries come to -/
def sum3 (f : K3 → Int) (es : E3) : Int := (es.map fun e => e.2 * f e.1).sum
theorem sum3_cons (f : K3 → Int) (e : K3 × Int) (es : E3) : sum3 f (e :: es) = e.2 * f e.1 + sum3 f es := by
  unfold sum3
  rw [List.map_cons, List.sum_cons]
theorem any3 {es : E3} {k : K3} : (es.any fun e => decide (e.1 = k)) = true ↔ k ∈ es.map (·.1) := by
  rw [List.any_eq_true, List.mem_map]
  constructor
  · rintro ⟨e, h1, h2⟩
    exact ⟨e, h1, of_decide_eq_true h2⟩
  · rintro ⟨e, h1, h2⟩
    exact ⟨e, h1, decide_eq_true h2⟩
theorem add3_keys (es : E3) (k : K3) (m : Int) : (add3 es k m).map (·.1) = if k ∈ es.map (·.1) then es.map (·.1) else es.map (·.1) ++ [k] := by
  unfold add3 put3
  by_cases h : k ∈ es.map (·.1)
  · rw [if_pos (any3.mpr h), if_pos h, List.map_map]
    congr 1
    funext x
    show (if x.1 = k then (x.1, _) else x).1 = x.1
    split <;> rfl
  · rw [if_neg fun z => h (any3.mp z), if_neg h, List.map_append]
    rfl
theorem add3_nodup {es : E3} {k : K3} {m : Int} (h : (es.map (·.1)).Nodup) : ((add3 es k m).map (·.1)).Nodup := by
  rw [add3_keys]
  split
  · exact h
  · rename_i hn
    rw [List.nodup_append]
    refine ⟨h, by simp, fun a ha b hb e => ?_⟩
    rw [List.mem_singleton.mp hb] at e
    rw [e] at ha
    exact hn ha
theorem add3_key {es : E3} {k j : K3} {m : Int} : j ∈ (add3 es k m).map (·.1) ↔ j ∈ es.map (·.1) ∨ j = k := by
  rw [add3_keys]
  split
  · rename_i h
    exact ⟨.inl, fun z => z.elim id fun e => by rw [e]; exact h⟩
  · rw [List.mem_append, List.mem_singleton]
theorem add3_len (es : E3) (k : K3) (m : Int) : (add3 es k m).length ≤ es.length + 1 := by
  have := congrArg List.length (add3_keys es k m)
  rw [List.length_map] at this
  rw [this]
  split
  · rw [List.length_map]; omega
  · rw [List.length_append, List.length_map, List.length_singleton]
    omega
theorem map_put {es : E3} {k : K3} {v : Int} {f : K3 → Int} (h : k ∉ es.map (·.1)) : (es.map fun e => if e.1 = k then (e.1, v) else e) = es := by
  induction es with
  | nil => rfl
  | cons e r ih =>
    rw [List.map_cons, List.mem_cons, not_or] at h
    rw [List.map_cons, if_neg (fun z => h.1 z.symm), ih h.2]
theorem add3_sum {es : E3} {k : K3} {m : Int} (f : K3 → Int) (h : (es.map (·.1)).Nodup) : sum3 f (add3 es k m) = sum3 f es + m * f k := by
  unfold add3 put3
  by_cases hk : k ∈ es.map (·.1)
  · rw [if_pos (any3.mpr hk)]
    induction es with
    | nil => cases hk
    | cons e r ih =>
      rw [List.map_cons, List.nodup_cons] at h
      by_cases he : e.1 = k
      · have hl : look3 (e :: r) k = some e.2 := by
          unfold look3
          rw [List.find?_cons_of_pos (p := fun e : K3 × Int => decide (e.1 = k)) (decide_eq_true he)]
          rfl
        rw [hl, List.map_cons, if_pos he, sum3_cons, sum3_cons, map_put (f := f) (by rw [← he]; exact h.1), he]
        simp only [Option.getD_some]
        rw [Int.add_mul]
        omega
      · have hl : look3 (e :: r) k = look3 r k := by
          unfold look3
          rw [List.find?_cons_of_neg (p := fun e : K3 × Int => decide (e.1 = k)) (fun z => he (of_decide_eq_true z))]
        have hk2 : k ∈ r.map (·.1) := by
          rcases List.mem_cons.mp hk with z | z
          · exact absurd z.symm he
          · exact z
        rw [hl, List.map_cons, if_neg he, sum3_cons, sum3_cons, ih h.2 hk2]
        omega
  · rw [if_neg fun z => hk (any3.mp z)]
    have hl : look3 es k = none := by
      unfold look3
      rw [Option.map_eq_none_iff, List.find?_eq_none]
      intro e he z
      exact hk (List.mem_map.mpr ⟨e, he, of_decide_eq_true z⟩)
    rw [hl]
    unfold sum3
    rw [List.map_append, List.sum_append]
    simp
theorem look3_val {es : E3} {k : K3} {v : Int} (h : look3 es k = some v) : (k, v) ∈ es := by
  unfold look3 at h
  obtain ⟨e, he, ev⟩ := Option.map_eq_some_iff.mp h
  have h0 := List.find?_some he
  have h1 : e.1 = k := of_decide_eq_true h0
  rw [← h1, ← ev]
  exact List.mem_of_find?_eq_some he
theorem add3_mem {es : E3} {k j : K3} {m v : Int} (h : (j, v) ∈ add3 es k m) : (j, v) ∈ es ∨ (j = k ∧ v = (look3 es k).getD 0 + m) := by
  unfold add3 put3 at h
  split at h
  · obtain ⟨e, he, z⟩ := List.mem_map.mp h
    split at z
    · rename_i hk
      cases z
      exact .inr ⟨hk, rfl⟩
    · rw [z] at he
      exact .inl he
  · rcases List.mem_append.mp h with h | h
    · exact .inl h
    · cases List.mem_singleton.mp h
      exact .inr ⟨rfl, rfl⟩
/-- the entries' values, all from 0 to c -/
def Vals3 (es : E3) (c : Int) : Prop := ∀ e ∈ es, 0 ≤ e.2 ∧ e.2 ≤ c
theorem Vals3.add {es : E3} {k : K3} {m c d : Int} (h : Vals3 es c) (h0 : 0 ≤ m) (h1 : m ≤ d) (hd : 0 ≤ c) : Vals3 (add3 es k m) (c + d) := by
  rintro ⟨j, v⟩ hv
  show 0 ≤ v ∧ v ≤ c + d
  rcases add3_mem hv with hv | ⟨_, rfl⟩
  · have : 0 ≤ v ∧ v ≤ c := h _ hv
    omega
  · cases hl : look3 es k with
    | none => show 0 ≤ 0 + m ∧ 0 + m ≤ c + d; omega
    | some u =>
      have : 0 ≤ u ∧ u ≤ c := h _ (look3_val hl)
      show 0 ≤ u + m ∧ u + m ≤ c + d
      omega
/-- rows of entries -/
def rowE (e : K3 × Int) : Row4 := ⟨e.1.1, e.1.2.1, e.1.2.2, e.2⟩
def sumR (f : K3 → Int) (L : List Row4) : Int := (L.map fun r => r.m * f r.k).sum
theorem sum_permI {l m : List Int} (h : l.Perm m) : l.sum = m.sum := by
  induction h with
  | nil => rfl
  | cons x _ ih => rw [List.sum_cons, List.sum_cons, ih]
  | swap x y l => rw [List.sum_cons, List.sum_cons, List.sum_cons, List.sum_cons]; omega
  | trans _ _ h1 h2 => exact h1.trans h2
theorem sum3_perm {f : K3 → Int} {es fs : E3} (h : es.Perm fs) : sum3 f es = sum3 f fs := sum_permI (h.map _)
/-- lights of the days that a part of the rows names -/
noncomputable def litR (L : Nat → Int) (n : Nat) (ds : List Nat) : Int := litSum L (fun d => d ∈ ds) n
theorem rCatT_r {K : PySem.W.Frag} {l b : Addr} {H : Hp} {Q : VK} {xs ys : List V} (h1 : SqT K H l xs) (h2 : SqT K H b ys) (n1 : xs ≠ []) (n2 : ys ≠ []) (hz : xs.length + ys.length ≤ sizeLine) (q : ∀ p, H p = none → Q (.ref p) (upd H p (.tup (xs ++ ys)))) : rCatT K (.ref l) (.ref b) H Q :=
  ⟨l, b, xs, ys, rfl, rfl, h1, h2, n1, hz, (fun z => absurd z n2), fun _ => q⟩
theorem rSorDT_r {a : Addr} {H : Hp} {Q : VK} : rSorDT [.ref a] H Q = ∃ (kvs : List (List Key × V)) (ks : List (List Int)), H a = some (.dT kvs) ∧ kvs.map (·.1) = ks.map (fun k => k.map Sum.inl) ∧ (∀ k ∈ ks, k ≠ []) ∧
  ∀ (L : List (Addr × List Int)) (p : Addr), (L.map (·.2)).Perm ks → L.Pairwise (fun p q => p.2 ≤ q.2) → (∀ q ∈ L, H q.1 = some (.tup (q.2.map V.int))) → H p = none → Q (.ref p) (upd H p (.lst (L.map fun q => V.ref q.1))) := propext ⟨fun ⟨_, kvs, ks, e, h⟩ => by cases e; exact ⟨kvs, ks, h⟩, fun ⟨kvs, ks, h⟩ => ⟨a, kvs, ks, rfl, h⟩⟩
/-- days of a rising list, and what they cost together -/
theorem lit_ints {F : Nat → Int} {n : Nat} {ms : List Int} {ds : List Nat} (hpw : ms.Pairwise (· < ·)) (hm : ∀ k : Int, k ∈ ms ↔ ∃ d ∈ ds, ((d : Nat) : Int) = k) (hd : ∀ d ∈ ds, d < n) : (ms.map fun k => F k.toNat).sum = litR F n ds := by
  have hmk : ∀ k ∈ ms, ∃ d : Nat, k = (d : Int) ∧ d < n ∧ d ∈ ds := fun k hk => by
    obtain ⟨d, h1, rfl⟩ := (hm k).mp hk
    exact ⟨d, rfl, hd d h1, h1⟩
  have hnd : (ms.map Int.toNat).Nodup := by
    rw [List.nodup_iff_pairwise_ne, List.pairwise_map]
    refine hpw.imp_of_mem fun {x y} hx hy h => ?_
    obtain ⟨d, rfl, _⟩ := hmk x hx
    obtain ⟨e, rfl, _⟩ := hmk y hy
    omega
  have h1 := litSum_nodup F n (ms.map Int.toNat) hnd fun m hm => by
    obtain ⟨k, hk, rfl⟩ := List.mem_map.mp hm
    obtain ⟨d, rfl, hd, _⟩ := hmk k hk
    rw [Int.toNat_natCast]
    exact hd
  rw [List.map_map] at h1
  refine (show (ms.map fun k => F k.toNat).sum = _ from h1).trans (litSum_congr fun d hd => ?_)
  constructor
  · intro z
    obtain ⟨k, hk, rfl⟩ := List.mem_map.mp z
    obtain ⟨d, rfl, _, h⟩ := hmk k hk
    rw [Int.toNat_natCast]
    exact h
  · intro z
    exact List.mem_map.mpr ⟨(d : Int), (hm _).mpr ⟨d, z, rfl⟩, Int.toNat_natCast _⟩
/-- the price of a row's loaf -/
def priceB (b : Bak) (k : K3) : Int := match b.goods[k.2.1]? with
  | some g => (loafP g k.1 k.2.2).getD 0
  | none => 0
structure FitR (b : Bak) (n : Nat) (r : Row4) : Prop where
  a : r.a < n
  c : r.c < n
  m : 0 ≤ r.m ∧ r.m ≤ 1000000000000
  p : ∃ g, b.goods[r.b]? = some g ∧ ∃ p, loafP g r.a r.c = some p
noncomputable def costB (b : Bak) (L : List Row4) : Int := litR (rowF b.lights) b.lights.length (L.map Row4.a) + sumR (priceB b) L
end Bk

namespace Bk
open PySem PySem.Spec PyProof.Rows L2
/-! ### set(xs) of up to sixty whole numbers -/
def rSetOf2 (K : PySem.W.Frag) (w : World) : List V → Hp → VK → Prop := fun xs H Q => ∃ (l : Addr) (ns : List Int), xs = [.ref l] ∧ SqL K H l (ns.map V.int) ∧ ns.length ≤ 60 ∧ ∀ p c, H p = none → c ≤ ns.length → Q (.ref p) (upd H p (SetO w p (fun j => decide (j ∈ ns)) c))
theorem rSetOf2_r {K : PySem.W.Frag} {w : World} {l : Addr} {H : Hp} {Q : VK} : rSetOf2 K w [.ref l] H Q = ∃ ns : List Int, SqL K H l (ns.map V.int) ∧ ns.length ≤ 60 ∧ ∀ p c, H p = none → c ≤ ns.length → Q (.ref p) (upd H p (SetO w p (fun j => decide (j ∈ ns)) c)) := propext ⟨fun ⟨_, ns, e, h⟩ => by cases e; exact ⟨ns, h⟩, fun ⟨ns, h⟩ => ⟨l, ns, rfl, h⟩⟩
/-! ### doughs -/
structure Dgh where
  mix : Int
  dough : Int
  hold : Int
def dghD (d : Dgh) : PyData := .tuple [.int d.mix, .int d.dough, .int d.hold]
def doughsD (ds : List Dgh) : PyData := .list (ds.map dghD)
def dghB : PyData → Bool
  | .tuple [a, b, c] => numD a && numD b && numD c
  | _ => false
def dghAt (ds : List Dgh) (i : Nat) : Dgh := ds.getD i ⟨0, 0, 0⟩
theorem dghAt_of {ds : List Dgh} {i : Nat} {d : Dgh} (h : ds[i]? = some d) : dghAt ds i = d := by
  unfold dghAt
  rw [List.getD_eq_getElem?_getD, h]
  rfl
def holdS (ds : List Dgh) (r k : Nat) : Int := (((ds.drop r).take k).map Dgh.hold).sum
def doughP (ds : List Dgh) (r s : Nat) : Int := (dghAt ds r).dough + holdS ds r (s - r)
theorem holdS_succ {ds : List Dgh} {r k : Nat} (h : r + k < ds.length) : holdS ds r (k + 1) = holdS ds r k + (dghAt ds (r + k)).hold := by
  unfold holdS
  have e : (ds.drop r)[k]? = some ds[r + k] := by rw [List.getElem?_drop, List.getElem?_eq_getElem h]
  rw [List.take_add_one, e, List.map_append, List.sum_append, dghAt_of (List.getElem?_eq_getElem h)]
  simp
theorem Th.dgh {K : PySem.W.Frag} {H : Hp} {x : V} {d : Dgh} (h : Th K H x (dghD d)) : ∃ t, x = .ref t ∧ SqT K H t [.int d.mix, .int d.dough, .int d.hold] := by
  cases h with
  | tup ht hta =>
  cases hta with
  | cons t1 hta => cases hta with
  | cons t2 hta => cases hta with
  | cons t3 hta =>
  cases hta
  cases t1; cases t2; cases t3
  exact ⟨_, rfl, ht⟩
theorem Th.doughs {K : PySem.W.Frag} {H : Hp} {x : V} {ds : List Dgh} (h : Th K H x (doughsD ds)) : ∃ p xs, x = .ref p ∧ SqL K H p xs ∧ ThAll K H xs (ds.map dghD) := by
  cases h with
  | lst hl ht => exact ⟨_, _, rfl, hl, ht⟩
/-! ### what entries come to, all nonnegative -/
def Tot3 (es : E3) (T : Int) : Prop := (∀ e ∈ es, 0 ≤ e.2) ∧ sum3 (fun _ => 1) es ≤ T
theorem Tot3.le {es : E3} {T : Int} (h : Tot3 es T) : ∀ e ∈ es, 0 ≤ e.2 ∧ e.2 ≤ T := by
  intro e he
  refine ⟨h.1 e he, Int.le_trans ?_ h.2⟩
  have h1 := h.1
  clear h
  induction es with
  | nil => cases he
  | cons x r ih =>
    rw [sum3_cons, Int.mul_one]
    have hr : 0 ≤ sum3 (fun _ => 1) r := by
      unfold sum3
      have : ∀ z ∈ (r.map fun e : K3 × Int => e.2 * 1), 0 ≤ z := fun z hz => by
        obtain ⟨y, hy, rfl⟩ := List.mem_map.mp hz
        have := h1 y (List.mem_cons_of_mem _ hy)
        omega
      generalize (r.map fun e : K3 × Int => e.2 * 1) = l at this
      induction l with
      | nil => exact Int.le_refl 0
      | cons a b ih2 =>
        rw [List.sum_cons]
        have := this a List.mem_cons_self
        have := ih2 fun z hz => by rename_i t; exact t z (List.mem_cons_of_mem _ hz)
        omega
    rcases List.mem_cons.mp he with rfl | he
    · omega
    · have := ih he fun y hy => h1 y (List.mem_cons_of_mem _ hy)
      have := h1 x List.mem_cons_self
      omega
theorem Tot3.nil : Tot3 [] 0 := ⟨(fun e he => by cases he), Int.le_refl 0⟩
theorem Tot3.add {es : E3} {k : K3} {m T : Int} (hn : (es.map (·.1)).Nodup) (h : Tot3 es T) (h0 : 0 ≤ m) : Tot3 (add3 es k m) (T + m) := by
  refine ⟨?_, ?_⟩
  · rintro ⟨j, v⟩ hv
    rcases add3_mem hv with hv | ⟨_, rfl⟩
    · exact h.1 _ hv
    · cases hl : look3 es k with
      | none => show 0 ≤ 0 + m; omega
      | some u =>
        have : 0 ≤ u := h.1 _ (look3_val hl)
        show 0 ≤ u + m
        omega
  · rw [add3_sum _ hn]
    have := h.2
    omega
theorem Tot3.mono {es : E3} {T U : Int} (h : Tot3 es T) (hu : T ≤ U) : Tot3 es U := ⟨h.1, Int.le_trans h.2 hu⟩
theorem Tot3.perm {es fs : E3} {T : Int} (h : Tot3 es T) (p : fs.Perm es) : Tot3 fs T := ⟨fun e he => h.1 e (p.mem_iff.mp he), by rw [sum3_perm p]; exact h.2⟩
end Bk

namespace Bk
open PySem PySem.Spec PyProof.Rows L2
theorem cxW {CX : CXT} {P : Program} {w : World} {K : PySem.W.Frag} {mg : Str → Option Value} {base : Heap} {N : List Str} {qual : Str} {scope : Scope} {f : Addr} {cd : Value} {A : Around} {outer : List Env} {s : Shared} {H : Hp} {E : XK} :
    (cxOf CX P w K mg base N qual scope f cd A outer s H E).w = w := rfl
theorem perm_sum {l1 l2 : List Int} (h : l1.Perm l2) : l1.sum = l2.sum := by
  induction h with
  | nil => rfl
  | cons x _ ih => rw [List.sum_cons, List.sum_cons, ih]
  | swap x y l => rw [List.sum_cons, List.sum_cons, List.sum_cons, List.sum_cons]; omega
  | trans _ _ h1 h2 => exact h1.trans h2
theorem sum_filter {f : Nat → Int} {p : Nat → Bool} : ∀ n, (∀ k, k < n → p k = false → f k = 0) → (((List.range n).filter p).map f).sum = sumN f n
  | 0, _ => rfl
  | n + 1, h => by
    have ih := sum_filter n fun k hk => h k (by omega)
    rw [List.range_succ, List.filter_append, List.map_append, List.sum_append, ih]
    show sumN f n + _ = sumN f n + f n
    congr 1
    by_cases e : p n = true
    · rw [List.filter_cons_of_pos e]
      exact List.sum_singleton ..
    · rw [List.filter_cons_of_neg e, h n (by omega) (by simpa using e)]
      rfl
theorem nodup_find {es : List (Nat × Nat)} (hn : (es.map Prod.snd).Nodup) {e : Nat × Nat} (he : e ∈ es) : es.find? (fun x => decide (x.2 = e.2)) = some e := by
  induction es with
  | nil => cases he
  | cons x r ih =>
    rw [List.map_cons, List.nodup_cons] at hn
    rcases List.mem_cons.mp he with rfl | h
    · exact List.find?_cons_of_pos (decide_eq_true rfl)
    · have : ¬ x.2 = e.2 := fun z => hn.1 (z ▸ List.mem_map.mpr ⟨e, h, rfl⟩)
      rw [List.find?_cons_of_neg (by simpa using this)]
      exact ih hn.2 h
/-- the told plan costs the least -/
theorem CheapI.eq {g : Good} {lights row : Nat → Int} {n : Nat} {es : List (Nat × Nat)} (h : CheapI g lights row n 0 es) (hR : IsRow g lights row n) (hn : n ≤ g.days.length) (hl : ∀ b, 0 ≤ lights b) (N : NonNegW g.days) (hlf : ∀ l, g.life = some l → 0 ≤ l) : litSum lights (fun d => ∃ e ∈ es, e.1 = d) n + loavesE g es = row n := by
  have hc := h.cost
  rw [hR.zero] at hc
  have hnd : (es.map Prod.snd).Nodup := h.days.nodup_iff.mpr (List.nodup_range.sublist List.filter_sublist)
  let p : Nat → Int := fun k => ((es.find? fun x => decide (x.2 = k)).map fun e => (loafP g e.1 e.2).getD 0).getD 0
  have hp : ∀ e ∈ es, p e.2 = (loafP g e.1 e.2).getD 0 := fun e he => by
    show ((es.find? fun x => decide (x.2 = e.2)).map _).getD 0 = _
    rw [nodup_find hnd he]
    rfl
  have e1 : loavesE g es = ((es.map Prod.snd).map fun k => wantN g k * p k).sum := by
    unfold loavesE
    rw [List.map_map]
    congr 1
    apply List.map_congr_left
    intro e he
    show _ = wantN g e.2 * p e.2
    rw [hp e he]
  have e2 : ((es.map Prod.snd).map fun k => wantN g k * p k).sum = sumN (fun k => wantN g k * p k) n := by
    rw [perm_sum (h.days.map _)]
    refine sum_filter n fun k _ hk => ?_
    have : wantN g k = 0 := by
      have := of_decide_eq_false hk
      by_cases z : wantN g k = 0
      · exact z
      · exact absurd ⟨Nat.zero_le _, z⟩ this
    rw [this, Int.zero_mul]
  have hcov : Cov g lights n n (fun d => ∃ e ∈ es, e.1 = d) p (litSum lights (fun d => ∃ e ∈ es, e.1 = d) n + loavesE g es) := by
    refine ⟨fun k hk hw => ?_, by rw [e1, e2]; exact Int.le_refl _⟩
    have hm : k ∈ (List.range n).filter fun k => decide (0 ≤ k ∧ wantN g k ≠ 0) := List.mem_filter.mpr ⟨List.mem_range.mpr hk, decide_eq_true ⟨Nat.zero_le _, hw⟩⟩
    obtain ⟨e, he, rfl⟩ := List.mem_map.mp (h.days.mem_iff.mpr hm)
    obtain ⟨hb, z, hz⟩ := h.price e he
    exact ⟨e.1, hb, ⟨e, he, rfl⟩, by rw [hp e he, hz]; rfl⟩
  have := row_le_cov hR hn hl N hlf hcov
  omega
/-! ### days alike, nights for nothing -/
def flatG (ws : List Int) : Good := ⟨ws.map fun w => ⟨w, 5, 0, some 0⟩, none⟩
end Bk

namespace Bk
open PySem PySem.Spec PyProof.Rows L2
/-! ### plans with doughs, and what they cost -/
def mixF (ds : List Dgh) (d : Nat) : Int := (dghAt ds d).mix
def priceD (ds : List Dgh) (g : Good) (k : K3) : Int := doughP ds k.1 k.2.1 + (loafP g k.2.1 k.2.2).getD 0
structure KeyD (g : Good) (n : Nat) (k : K3) : Prop where
  ab : k.1 ≤ k.2.1
  b : k.2.1 < n
  c : k.2.2 < n
  p : ∃ p, loafP g k.2.1 k.2.2 = some p
def sumM (L : List Row4) : Int := (L.map Row4.m).sum
/-- what is known of a plan that is handed in -/
structure PlanF (g : Good) (n : Nat) (L : List Row4) : Prop where
  keys : ∀ r ∈ L, KeyD g n r.k
  pos : ∀ r ∈ L, 0 < r.m
  tot : sumM L ≤ 100000000000
  len : L.length ≤ 60
noncomputable def costD (ds : List Dgh) (ls : List Int) (g : Good) (n : Nat) (L : List Row4) : Int := litR (mixF ds) n (L.map Row4.a) + litR (rowF ls) n (L.map Row4.b) + sumR (priceD ds g) L
theorem sumM_cons (r : Row4) (L : List Row4) : sumM (r :: L) = r.m + sumM L := by
  unfold sumM
  rw [List.map_cons, List.sum_cons]
theorem sumM_nonneg {L : List Row4} (h : ∀ r ∈ L, 0 < r.m) : 0 ≤ sumM L := by
  induction L with
  | nil => exact Int.le_refl 0
  | cons r L ih =>
    rw [sumM_cons]
    have := h r List.mem_cons_self
    have := ih fun x hx => h x (List.mem_cons_of_mem _ hx)
    omega
theorem sumM_le {L : List Row4} (h : ∀ r ∈ L, 0 < r.m) : ∀ r ∈ L, r.m ≤ sumM L := by
  induction L with
  | nil => intro r hr; cases hr
  | cons x L ih =>
    intro r hr
    rw [sumM_cons]
    have h2 : ∀ r ∈ L, 0 < r.m := fun y hy => h y (List.mem_cons_of_mem _ hy)
    have := sumM_nonneg h2
    have := h x List.mem_cons_self
    rcases List.mem_cons.mp hr with rfl | hr
    · omega
    · have := ih h2 r hr
      omega
theorem PlanF.m {g : Good} {n : Nat} {L : List Row4} (h : PlanF g n L) : ∀ r ∈ L, 0 < r.m ∧ r.m ≤ 100000000000 := fun r hr => ⟨h.pos r hr, Int.le_trans (sumM_le h.pos r hr) h.tot⟩
theorem sumM_perm {L M : List Row4} (h : L.Perm M) : sumM L = sumM M := sum_permI (h.map _)
theorem PlanF.perm {g : Good} {n : Nat} {L M : List Row4} (h : PlanF g n L) (p : M.Perm L) : PlanF g n M :=
  ⟨fun r hr => h.keys r (p.mem_iff.mp hr), fun r hr => h.pos r (p.mem_iff.mp hr), by rw [sumM_perm p]; exact h.tot, by rw [p.length_eq]; exact h.len⟩
theorem litR_perm {F : Nat → Int} {n : Nat} {a b : List Nat} (h : ∀ d, d ∈ a ↔ d ∈ b) : litR F n a = litR F n b := litSum_congr fun d _ => h d
theorem PlanF.small {g : Good} {n : Nat} {L : List Row4} (h : PlanF g n L) (hn : n ≤ 40) : SmallR L := by
  have := h.len
  refine ⟨by omega, fun r hr => ?_⟩
  have hk := h.keys r hr
  have h1 : r.a ≤ r.b := hk.ab
  have h2 : r.b < n := hk.b
  have h3 : r.c < n := hk.c
  have := h.m r hr
  exact ⟨by omega, by omega, by omega, Nat.lt_of_le_of_lt (show r.m.natAbs ≤ 100000000000 by omega) (by decide)⟩
/-! ### keys put out of order -/
theorem perm_of_map {α β : Type} {f : α → β} : ∀ {l m : List β}, l.Perm m → ∀ {es : List α}, m = es.map f → ∃ fs : List α, fs.Perm es ∧ l = fs.map f := by
  intro l m h
  induction h with
  | nil =>
    intro es e
    exact ⟨es, List.Perm.refl _, e⟩
  | cons x _ ih =>
    intro es e
    cases es with
    | nil => cases e
    | cons y r =>
      rw [List.map_cons] at e
      obtain ⟨e1, e2⟩ := List.cons.inj e
      obtain ⟨fs, p, e3⟩ := ih e2
      exact ⟨y :: fs, p.cons y, by rw [List.map_cons, e1, e3]⟩
  | swap x y l =>
    intro es e
    match es, e with
    | a :: b :: r, e =>
      rw [List.map_cons, List.map_cons] at e
      obtain ⟨e1, e2⟩ := List.cons.inj e
      obtain ⟨e2, e3⟩ := List.cons.inj e2
      exact ⟨b :: a :: r, List.Perm.swap a b r, by rw [List.map_cons, List.map_cons, e1, e2, e3]⟩
  | trans _ _ h1 h2 =>
    intro es e
    obtain ⟨fs, p, e2⟩ := h2 e
    obtain ⟨gs, q, e3⟩ := h1 e2
    exact ⟨gs, q.trans p, e3⟩
/-! ### without the mixing -/
def unm (r : Row4) : K3 := (r.b, 0, r.c)
def sumU (f : K3 → Int) (L : List Row4) : Int := (L.map fun r => r.m * f (unm r)).sum
structure UnOf (L : List Row4) (es : E3) : Prop where
  nd : (es.map (·.1)).Nodup
  keys : ∀ k, k ∈ es.map (·.1) ↔ ∃ r ∈ L, unm r = k
  sum : ∀ f, sum3 f es = sumU f L
  pos : ∀ e ∈ es, 0 < e.2
  len : es.length ≤ L.length
theorem UnOf.nil : UnOf [] [] := ⟨List.nodup_nil, (fun k => ⟨(fun h => by cases h), fun ⟨r, h, _⟩ => by cases h⟩), (fun f => rfl), (fun e h => by cases h), Nat.le_refl _⟩
theorem UnOf.add {L : List Row4} {es : E3} {r : Row4} (h : UnOf L es) (hp : 0 < r.m) : UnOf (L ++ [r]) (add3 es (unm r) r.m) := by
  refine ⟨add3_nodup h.nd, fun k => ?_, fun f => ?_, fun e he => ?_, ?_⟩
  · rw [add3_key, h.keys k]
    constructor
    · rintro (⟨x, hx, e⟩ | e)
      · exact ⟨x, List.mem_append_left _ hx, e⟩
      · exact ⟨r, by simp, e.symm⟩
    · rintro ⟨x, hx, e⟩
      rcases List.mem_append.mp hx with hx | hx
      · exact .inl ⟨x, hx, e⟩
      · rw [List.mem_singleton.mp hx] at e
        exact .inr e.symm
  · rw [add3_sum f h.nd, h.sum f]
    unfold sumU
    rw [List.map_append, List.sum_append]
    simp
  · obtain ⟨k, v⟩ := e
    show 0 < v
    rcases add3_mem he with he | ⟨_, rfl⟩
    · exact h.pos _ he
    · cases hl : look3 es (unm r) with
      | none => show 0 < 0 + r.m; omega
      | some u =>
        have := h.pos _ (look3_val hl)
        dsimp only at this
        show 0 < u + r.m
        omega
  · have := add3_len es (unm r) r.m
    have := h.len
    rw [List.length_append, List.length_singleton]
    omega
theorem UnOf.perm {L : List Row4} {es fs : E3} (h : UnOf L es) (p : fs.Perm es) : UnOf L fs :=
  ⟨(p.map _).nodup_iff.mpr h.nd, fun k => by rw [← h.keys k]; exact (p.map _).mem_iff, fun f => by rw [sum3_perm p]; exact h.sum f, fun e he => h.pos e (p.mem_iff.mp he), by rw [p.length_eq]; exact h.len⟩
theorem sum3_one (es : E3) : sum3 (fun _ => 1) es = sumM (es.map rowE) := by
  unfold sum3 sumM
  rw [List.map_map]
  congr 1
  exact List.map_congr_left fun e _ => Int.mul_one _
theorem sumU_one (L : List Row4) : sumU (fun _ => 1) L = sumM L := by
  unfold sumU sumM
  congr 1
  exact List.map_congr_left fun e _ => Int.mul_one _
theorem UnOf.tot {L : List Row4} {es : E3} (h : UnOf L es) : sumM (es.map rowE) = sumM L := by rw [← sum3_one, h.sum, sumU_one]
theorem UnOf.days {L : List Row4} {es : E3} (h : UnOf L es) (d : Nat) : d ∈ (es.map rowE).map Row4.a ↔ d ∈ L.map Row4.b := by
  rw [List.map_map]
  constructor
  · intro z
    obtain ⟨e, he, rfl⟩ := List.mem_map.mp z
    obtain ⟨r, hr, e2⟩ := (h.keys e.1).mp (List.mem_map.mpr ⟨e, he, rfl⟩)
    exact List.mem_map.mpr ⟨r, hr, by show r.b = e.1.1; rw [← e2]; rfl⟩
  · intro z
    obtain ⟨r, hr, rfl⟩ := List.mem_map.mp z
    obtain ⟨e, he, e2⟩ := List.mem_map.mp ((h.keys (unm r)).mpr ⟨r, hr, rfl⟩)
    exact List.mem_map.mpr ⟨e, he, by show e.1.1 = r.b; rw [e2]; rfl⟩
/-- what each entry of a plan without mixing is -/
theorem UnOf.fit {g : Good} {ls : List Int} {L : List Row4} {es : E3} (h : UnOf L es) (hF : PlanF g ls.length L) : ∀ r ∈ es.map rowE, FitR ⟨ls, none, [g]⟩ ls.length r := by
  intro r hr
  obtain ⟨e, he, rfl⟩ := List.mem_map.mp hr
  obtain ⟨x, hx, e2⟩ := (h.keys e.1).mp (List.mem_map.mpr ⟨e, he, rfl⟩)
  have hk := hF.keys x hx
  have ea : (rowE e).a = x.b := by show e.1.1 = x.b; rw [← e2]; rfl
  have eb : (rowE e).b = 0 := by show e.1.2.1 = 0; rw [← e2]; rfl
  have ec : (rowE e).c = x.c := by show e.1.2.2 = x.c; rw [← e2]; rfl
  have hp : ∀ r ∈ es.map rowE, 0 < r.m := fun r hr => by
    obtain ⟨y, hy, rfl⟩ := List.mem_map.mp hr
    exact h.pos y hy
  have h1 := sumM_le hp _ hr
  rw [h.tot] at h1
  have h2 := hF.tot
  have h3 := hp _ hr
  refine ⟨by rw [ea]; exact hk.b, by rw [ec]; exact hk.c, ⟨by omega, by omega⟩, g, by rw [eb]; rfl, ?_⟩
  rw [ea, ec]
  exact hk.p
theorem UnOf.fresh {g : Good} {n : Nat} {L : List Row4} {es : E3} (h : UnOf L es) (hF : PlanF g n L) : PlanF g n ((es.map rowE).map fun r => ⟨r.a, r.a, r.c, r.m⟩) := by
  have et : sumM ((es.map rowE).map fun r => (⟨r.a, r.a, r.c, r.m⟩ : Row4)) = sumM (es.map rowE) := by
    unfold sumM
    rw [List.map_map]
    rfl
  refine ⟨fun r hr => ?_, fun r hr => ?_, by rw [et, h.tot]; exact hF.tot, by rw [List.length_map, List.length_map]; exact Nat.le_trans h.len hF.len⟩
  · obtain ⟨y, hy, rfl⟩ := List.mem_map.mp hr
    obtain ⟨e, he, rfl⟩ := List.mem_map.mp hy
    obtain ⟨x, hx, e2⟩ := (h.keys e.1).mp (List.mem_map.mpr ⟨e, he, rfl⟩)
    have hk := hF.keys x hx
    have ea : (rowE e).a = x.b := by show e.1.1 = x.b; rw [← e2]; rfl
    have ec : (rowE e).c = x.c := by show e.1.2.2 = x.c; rw [← e2]; rfl
    refine ⟨Nat.le_refl _, ?_, ?_, ?_⟩
    · show (rowE e).a < n
      rw [ea]
      exact hk.b
    · show (rowE e).c < n
      rw [ec]
      exact hk.c
    · show ∃ p, loafP g (rowE e).a (rowE e).c = some p
      rw [ea, ec]
      exact hk.p
  · obtain ⟨y, hy, rfl⟩ := List.mem_map.mp hr
    obtain ⟨e, he, rfl⟩ := List.mem_map.mp hy
    exact h.pos e he
end Bk

namespace Bk
open PySem PySem.Spec PyProof.Rows L2
/-! ### t >= u, of tuples of numbers -/
def geL (us vs : List Int) : Bool := Ob.lexAt (fun i => decide (us.getD i 0 = vs.getD i 0)) (fun i => decide (vs.getD i 0 ≤ us.getD i 0)) (decide (vs.length ≤ us.length)) 0 (min us.length vs.length)
def rGeT (K : PySem.W.Frag) : R2 := fun x y H Q => ∃ (p q : Addr) (us vs : List Int), x = .ref p ∧ y = .ref q ∧ SqT K H p (us.map V.int) ∧ SqT K H q (vs.map V.int) ∧ Q (.bl (geL us vs)) H
end Bk

namespace Bk
open PySem PySem.Spec PyProof.Rows L2
/-! ### the told plan is one plan -/
structure First (fs : Nat → Option Nat) (m b f : Nat) : Prop where
  lt : b < m
  eq : fs b = some f
  no : ∀ c, c < b → fs c = none
theorem First.uniq {fs : Nat → Option Nat} {m b f b' f' : Nat} (h : First fs m b f) (h' : First fs m b' f') : b = b' ∧ f = f' := by
  have e : b = b' := by
    rcases Nat.lt_trichotomy b b' with z | z | z
    · have := h'.no b z
      rw [h.eq] at this
      cases this
    · exact z
    · have := h.no b' z
      rw [h'.eq] at this
      cases this
  subst e
  have := h.eq.symm.trans h'.eq
  exact ⟨rfl, Option.some.inj this⟩
def fsOf (g : Good) (lights row : Nat → Int) (m : Nat) : Nat → Option Nat := fun b => fbo row (wantP g b) (row m) m (lights b)
structure IsRest (g : Good) (lights row : Nat → Int) (rest : Nat → List (Nat × Nat)) (n : Nat) : Prop where
  zero : rest 0 = []
  down : ∀ m, m < n → wantN g m = 0 → row (m + 1) = row m → rest (m + 1) = rest m
  step : ∀ m, m < n → ¬ (wantN g m = 0 ∧ row (m + 1) = row m) → ∀ b f, First (fsOf g lights row (m + 1)) (m + 1) b f → rest (m + 1) = strE g b f (m + 1) ++ rest f
open Classical in
noncomputable def restOf (g : Good) (lights row : Nat → Int) : Nat → List (Nat × Nat)
  | 0 => []
  | m + 1 => if wantN g m = 0 ∧ row (m + 1) = row m then restOf g lights row m else
    if h : ∃ z : Nat × Nat, First (fsOf g lights row (m + 1)) (m + 1) z.1 z.2 ∧ z.2 < m + 1 then strE g h.choose.1 h.choose.2 (m + 1) ++ restOf g lights row h.choose.2 else []
termination_by m => m
decreasing_by
  · omega
  · exact h.choose_spec.2
theorem fbo_congr {row row' : Nat → Int} {w : Nat → Option Int} {T : Int} : ∀ {m : Nat} {c : Int}, (∀ i, i < m → row i = row' i) → fbo row w T m c = fbo row' w T m c
  | 0, _, _ => rfl
  | m + 1, c, h => by
    unfold fbo
    rw [h m (by omega)]
    cases w m with
    | none => rfl
    | some p =>
      simp only
      rw [fbo_congr fun i hi => h i (by omega)]
theorem IsRest.congr {g : Good} {lights row row' : Nat → Int} {rest : Nat → List (Nat × Nat)} {n : Nat} (h : IsRest g lights row rest n) (e : ∀ i, i ≤ n → row i = row' i) : IsRest g lights row' rest n := by
  have ef : ∀ m, m < n → fsOf g lights row (m + 1) = fsOf g lights row' (m + 1) := fun m hm => by
    funext b
    unfold fsOf
    rw [e (m + 1) (by omega)]
    exact fbo_congr fun i hi => e i (by omega)
  refine ⟨h.zero, fun m hm h1 h2 => h.down m hm h1 (by rw [e _ (by omega), e _ (by omega)]; exact h2), fun m hm hn b f hF => ?_⟩
  rw [← ef m hm] at hF
  exact h.step m hm (by rw [e _ (by omega), e _ (by omega)]; exact hn) b f hF
end Bk

namespace Bk
open PySem PySem.Spec PyProof.Rows L2 RZ
/-! ### len and zip of lists or tuples -/
def rLnS (K : PySem.W.Frag) : List V → Hp → VK → Prop := fun xs H Q => ∃ p ys, xs = [.ref p] ∧ (SqL K H p ys ∨ SqT K H p ys) ∧ Q (.int ys.length) H
def rZipA (K : PySem.W.Frag) (vs : List V) (H1 : Hp) (R : It → Hp → Prop) : Prop := ∃ a b xs ys, vs = [.ref a, .ref b] ∧ ((SqL K H1 a xs ∧ SqL K H1 b ys ∧ R (Itz K a b) H1) ∨ (SqT K H1 a xs ∧ SqT K H1 b ys ∧ R (ItzT K a b) H1))
theorem iZipA_eq {K : PySem.W.Frag} {ta : TA} {σ : L2.St} {H : Hp} {R : It → Hp → Prop} : iZipA K ta σ H R = ta σ H fun vs H1 => rZipA K vs H1 R := rfl
theorem rZipA_r {K : PySem.W.Frag} {a b : Addr} {H : Hp} {R : It → Hp → Prop} : rZipA K [.ref a, .ref b] H R = ∃ xs ys, (SqL K H a xs ∧ SqL K H b ys ∧ R (Itz K a b) H) ∨ (SqT K H a xs ∧ SqT K H b ys ∧ R (ItzT K a b) H) := propext ⟨fun ⟨_, _, xs, ys, e, h⟩ => by cases e; exact ⟨xs, ys, h⟩, fun ⟨xs, ys, h⟩ => ⟨a, b, xs, ys, rfl, h⟩⟩
/-! ### data that is alike: so deep, no dicts -/
def sameOk : Nat → PyData → Bool
  | _, .none => true
  | _, .bool _ => true
  | _, .int _ => true
  | _, .str _ => true
  | 0, .list _ => false
  | 0, .tuple _ => false
  | k + 1, .list ds => decide (ds.length ≤ 1000) && ds.all (sameOk k)
  | k + 1, .tuple ds => decide (ds.length ≤ 1000) && ds.all (sameOk k)
  | _, .dict _ => false
end Bk

namespace Bk
open PySem PySem.Spec PyProof.Rows L2
/-! ### xs[::-1] of a list -/
def rRng3 (vs : List V) (H1 : Hp) (R : It → Hp → Prop) : Prop := ∃ (i j c : Int) (n : Nat), vs = [.int i, .int j, .int c] ∧ RgC i j c n ∧ R (Itc i c n) H1
theorem iRng3_eq {ta : TA} {σ : L2.St} {H : Hp} {R : It → Hp → Prop} : iRng3 ta σ H R = ta σ H fun vs H1 => rRng3 vs H1 R := rfl
theorem rRng3_i {i j c : Int} {H : Hp} {R : It → Hp → Prop} : rRng3 [.int i, .int j, .int c] H R = ∃ n, RgC i j c n ∧ R (Itc i c n) H := propext ⟨fun ⟨_, _, _, n, e, h⟩ => by cases e; exact ⟨n, h⟩, fun ⟨n, h⟩ => ⟨i, j, c, n, rfl, h⟩⟩
/-- the last lit days never go back -/
theorem Lasts.mono {g : Good} {ls : List Int} {os : List (Option Nat)} (h : Lasts g ls os) (hg : g.days.length = ls.length) (hl : ∀ b, 0 ≤ rowF ls b) (N : NonNegW g.days) (S : Steady g) {n l : Nat} (hn : n < ls.length) (e : os[n]? = some (some l)) : ∃ l', os[n + 1]? = some (some l') ∧ l ≤ l' := by
  obtain ⟨row, hR, hat⟩ := h.row
  have hol := h.len
  have e' : os[n + 1]? = some os[n + 1] := List.getElem?_eq_getElem (by omega)
  generalize os[n + 1] = o at e'
  have h1 := hat n _ e
  have h2 := hat (n + 1) _ e'
  by_cases hw : wantN g n = 0
  · have hi := h1.of_iff (g' := g) (lights' := rowF ls) (row' := row) (j' := n + 1) fun d => (last_unw hR (by omega) hl N S hn hw d).symm
    have := h2.uniq hi
    subst this
    exact ⟨l, e', Nat.le_refl _⟩
  · obtain ⟨d, hd⟩ := last_wanted hR (by omega) hl N S hn hw
    cases o with
    | none => exact absurd hd (h2 d)
    | some l' => exact ⟨l', e', last_up hR (by omega) hl N S hn hw h1.1 h2⟩
end Bk

namespace Bk
open PySem PySem.Spec PyProof.Rows L2
/-! ### min(xs, default=None) of a list of ints -/
theorem reads_nums {h : Heap} : ∀ xs : List (Int × Tok), ReadsAll h (xs.map fun p => Value.int p.1 p.2) ((xs.map (·.1)).map PyData.int) []
  | [] => .nil
  | p :: r => .cons (as := []) (bs := []) (.int p.1 p.2) (reads_nums r)
theorem depth_nums : ∀ ns : List Int, PyData.depthAll (ns.map PyData.int) = 0
  | [] => rfl
  | n :: r => by
    rw [List.map_cons]
    show max (PyData.depth (.int n)) (PyData.depthAll (r.map PyData.int)) = 0
    rw [depth_nums r]
    rfl
theorem fold_least : ∀ (ns : List Int) (n : Int), ns.foldl min n ∈ n :: ns ∧ ∀ y ∈ n :: ns, ns.foldl min n ≤ y
  | [], n => ⟨List.mem_cons_self, fun y hy => by rw [List.mem_singleton.mp hy]; exact Int.le_refl _⟩
  | m :: r, n => by
    obtain ⟨h1, h2⟩ := fold_least r (min n m)
    show r.foldl min (min n m) ∈ _ ∧ _
    refine ⟨?_, fun y hy => ?_⟩
    · rcases List.mem_cons.mp h1 with e | e
      · rw [e]
        rcases (show min n m = n ∨ min n m = m by omega) with z | z <;> rw [z] <;> simp
      · exact List.mem_cons_of_mem _ (List.mem_cons_of_mem _ e)
    · have h0 := h2 (min n m) List.mem_cons_self
      rcases List.mem_cons.mp hy with rfl | hy
      · show r.foldl min (min y m) ≤ y
        omega
      · rcases List.mem_cons.mp hy with rfl | hy
        · show r.foldl min (min n y) ≤ y
          omega
        · exact h2 y (List.mem_cons_of_mem _ hy)
def rMinN (K : PySem.W.Frag) : List V → List V → Hp → VK → Prop := fun vs zs H Q => ∃ (a : Addr) (ns : List Int), vs = [V.ref a] ∧ zs = [V.non] ∧ SqL K H a (ns.map V.int) ∧ (ns = [] → Q .non H) ∧ ∀ m, m ∈ ns → (∀ y, y ∈ ns → m ≤ y) → Q (.int m) H
theorem cr_minN {X : Cx} (hc : X.calm = true) (hu : X.A.units + 64 < cLine) : CallRK X (.builtin "min") [Str.ofString "default"] (rMinN X.K) := by
  intro pins s σ H vs zs us ws Q I r rz h
  obtain ⟨a, ns, rfl, rfl, hs, q0, q1⟩ := h
  obtain rfl := Vals.ref1 r
  obtain ⟨its, rv, hl, hz⟩ := I.list hs
  have hi := rv.ints
  cases rz with
  | cons rd rr =>
  cases rr
  cases rd
  have hl := hl.isList
  obtain ⟨xs, e⟩ := hi.allInts.items
  have hn : numsOf (intItems xs).toList = ns := by rw [← e]; exact hi.numsOf
  rw [nums_intItems] at hn
  rw [e] at hl
  have hr : ReadsAll s.heap (intItems xs).toList (ns.map PyData.int) [] := by
    have e2 : (intItems xs).toList = xs.toList.map fun p => Value.int p.1 p.2 := by simp [intItems]
    rw [e2, ← hn]
    exact reads_nums xs.toList
  refine PySem.W.min_list_default (d := .none) (I.ok.hd hc) hl hr ⟨fun x hx y hy => ?_, fun x hx => ?_⟩ (by rw [depth_nums]; omega) (fun h0 h' tk hk => ⟨.non, H, I.kept (t' := tk) hk, rfl, q0 ?_⟩) (fun y ys i v h' tk bs e0 hv hrd hk => ?_)
  · obtain ⟨i, _, rfl⟩ := List.mem_map.mp hx
    obtain ⟨j, _, rfl⟩ := List.mem_map.mp hy
    rfl
  · obtain ⟨i, _, rfl⟩ := List.mem_map.mp hx
    exact fun z => nomatch z
  · exact List.map_eq_nil_iff.mp h0
  · cases ns with
    | nil => cases e0
    | cons n r =>
      cases e0
      rw [PySem.W.minD_ints] at hrd
      obtain ⟨t, rfl⟩ := intItems_at hv
      obtain ⟨g1, g2⟩ := fold_least r n
      generalize r.foldl min n = m at hrd g1 g2
      cases hrd
      exact ⟨.int _, H, I.kept (t' := tk) hk, ⟨_, rfl⟩, q1 _ g1 g2⟩
theorem rMinN_r {K : PySem.W.Frag} {a : Addr} {H : Hp} {Q : VK} : rMinN K [.ref a] [.non] H Q = ∃ ns : List Int, SqL K H a (ns.map V.int) ∧ (ns = [] → Q .non H) ∧ ∀ m, m ∈ ns → (∀ y, y ∈ ns → m ≤ y) → Q (.int m) H :=
  propext ⟨fun ⟨_, ns, e1, e2, h⟩ => by cases e1; cases e2; exact ⟨ns, h⟩, fun ⟨ns, h⟩ => ⟨a, ns, rfl, rfl, h⟩⟩
end Bk

namespace Bk
open PySem PySem.Spec PyProof.Rows L2
/-! ### comprehensions with two fors -/
def Lc1R (J : It) (g : TG) (tt : TT) (te : TE) (vs : List Nat) (σ : L2.St) (D : Addr) (H1 : Hp) (Qd : Hp → Prop) : Prop := ∃ W : Nat → Nat → Hp → Prop, (∃ m, W 0 m H1) ∧ ∀ i m H, W i m H →
  (J.stop i H ∧ Qd H) ∨ (J.go i H ∧ ∃ Nx : Hp → Prop, (∀ H', Nx H' → ∃ m', m' < m ∧ W (i + 1) m' H') ∧ ∀ x H', J.yld i H x H' → g x (wipe σ vs) H' fun σ2 H2 => wipe σ2 vs = wipe σ vs ∧ tt σ2 H2 fun b H3 =>
    if b = true then te σ2 H3 fun y H4 => ∃ acc, H4 D = some (.lst acc) ∧ acc.length < sizeLine ∧ Nx (upd H4 D (.lst (acc ++ [y]))) else Nx H3)
def Lc2R (J : It) (g : TG) (tt : TT) (wi1 : TI) (g1 : TG) (tt1 : TT) (te : TE) (vs vs1 : List Nat) (σ : L2.St) (D : Addr) (H1 : Hp) (Qd : Hp → Prop) : Prop := ∃ W : Nat → Nat → Hp → Prop, (∃ m, W 0 m (upd H1 D (.lst []))) ∧ ∀ i m H, W i m H →
  (J.stop i H ∧ Qd H) ∨ (J.go i H ∧ ∃ Nx : Hp → Prop, (∀ H', Nx H' → ∃ m', m' < m ∧ W (i + 1) m' H') ∧ ∀ x H', J.yld i H x H' → g x (wipe σ vs) H' fun σ2 H2 => wipe σ2 vs = wipe σ vs ∧ tt σ2 H2 fun b H3 =>
    if b = true then wi1 σ2 H3 fun J1 H4 => Lc1R J1 g1 tt1 te vs1 σ2 D H4 Nx else Nx H3)
section
variable {J : It} {n : Nat} {G : Hp → Prop} {Y : Nat → Hp → V → Hp → Prop} {g g1 : TG} {tt tt1 : TT} {wi1 : TI} {te : TE} {vs vs1 : List Nat} {σ : L2.St} {H1 : Hp} {D : Addr} {Qd : Hp → Prop}
theorem Lc1R.by (w : Walk J n G Y) (Pv : Nat → Hp → Prop) (h0 : Pv 0 H1) (hG : ∀ i H, i ≤ n → Pv i H → G H)
    (hs : ∀ i x H H', i < n → Pv i H → Y i H x H' → g x (wipe σ vs) H' fun σ2 H2 => wipe σ2 vs = wipe σ vs ∧ tt σ2 H2 fun b H3 =>
      if b = true then te σ2 H3 fun y H4 => ∃ acc, H4 D = some (.lst acc) ∧ acc.length < sizeLine ∧ Pv (i + 1) (upd H4 D (.lst (acc ++ [y]))) else Pv (i + 1) H3) (hd : ∀ H, Pv n H → Qd H) : Lc1R J g tt te vs σ D H1 Qd := by
  refine ⟨fun i m H => m = n - i ∧ i ≤ n ∧ Pv i H, ⟨n, by simp, Nat.zero_le _, h0⟩, ?_⟩
  rintro i m H ⟨rfl, hi, p⟩
  have q := hG i H hi p
  by_cases hlt : i < n
  · refine .inr ⟨w.goes i H hlt q, Pv (i + 1), fun H' p' => ⟨n - (i + 1), by omega, rfl, hlt, p'⟩, fun x H' y => hs i x H H' hlt p (w.yields i H x H' hlt q y)⟩
  · have e : i = n := by omega
    subst e
    exact .inl ⟨w.stops H q, hd H p⟩
theorem Lc2R.by (w : Walk J n G Y) (Pv : Nat → Hp → Prop) (h0 : Pv 0 (upd H1 D (.lst []))) (hG : ∀ i H, i ≤ n → Pv i H → G H)
    (hs : ∀ i x H H', i < n → Pv i H → Y i H x H' → g x (wipe σ vs) H' fun σ2 H2 => wipe σ2 vs = wipe σ vs ∧ tt σ2 H2 fun b H3 =>
      if b = true then wi1 σ2 H3 fun J1 H4 => Lc1R J1 g1 tt1 te vs1 σ2 D H4 (Pv (i + 1)) else Pv (i + 1) H3) (hd : ∀ H, Pv n H → Qd H) : Lc2R J g tt wi1 g1 tt1 te vs vs1 σ D H1 Qd := by
  refine ⟨fun i m H => m = n - i ∧ i ≤ n ∧ Pv i H, ⟨n, by simp, Nat.zero_le _, h0⟩, ?_⟩
  rintro i m H ⟨rfl, hi, p⟩
  have q := hG i H hi p
  by_cases hlt : i < n
  · refine .inr ⟨w.goes i H hlt q, Pv (i + 1), fun H' p' => ⟨n - (i + 1), by omega, rfl, hlt, p'⟩, fun x H' y => hs i x H H' hlt p (w.yields i H x H' hlt q y)⟩
  · have e : i = n := by omega
    subst e
    exact .inl ⟨w.stops H q, hd H p⟩
end
theorem get_list {X : Cx} : PGet X (rIxL X.K) := by
  intro pins s σ H o i ov iv Q I rx ry h
  obtain ⟨p, xs, i, z, rfl, rfl, hq, he, q⟩ := h
  cases rx
  obtain ⟨t, rfl⟩ := ry
  obtain ⟨its, r, pl, hz⟩ := I.list hq
  obtain ⟨j, h1, h2, h3, h4, h5⟩ := atI_get he
  obtain ⟨w, ew, rw'⟩ := r.get h2
  have hl := r.length
  have hn := line63
  have fin : EP X pins σ Q w s := ⟨z, H, I, rw', q⟩
  by_cases h0 : 0 ≤ i
  · have hj : i.toNat = j := by
      rw [seqIndex_of h0 h5] at h1
      exact Option.some.inj h1
    exact wpAny_getItem_list pl.isList h0 (by omega) (by rw [hj]; simpa using ew) fin
  · have hj : (i + (its.toArray.size : Int)).toNat = j := by
      rw [seqIndex_neg (by omega) h4] at h1
      rw [List.size_toArray, ← hl]
      exact Option.some.inj h1
    exact wpAny_getItem_list_neg pl.isList (by omega) (by rw [List.size_toArray] <;> omega) (by omega) (by rw [hj]; simpa using ew) fin
/-! ### triples of numbers on the heap -/
/-- a reach and how many -/
abbrev Tr := Int × Int × Int
def trV (t : Tr) : List V := [.int t.1, .int t.2.1, .int t.2.2]
inductive Trs (H : Hp) : List V → List Tr → Prop
  | nil : Trs H [] []
  | cons {p : Addr} {t : Tr} {vs : List V} {ts : List Tr} : H p = some (.tup (trV t)) → Trs H vs ts → Trs H (.ref p :: vs) (t :: ts)
theorem Trs.same {H H' : Hp} (s : Same H H') : ∀ {vs : List V} {ts : List Tr}, Trs H vs ts → Trs H' vs ts
  | _, _, .nil => .nil
  | _, _, .cons e h => .cons (s _ _ e) (h.same s)
theorem Trs.length {H : Hp} : ∀ {vs : List V} {ts : List Tr}, Trs H vs ts → vs.length = ts.length
  | _, _, .nil => rfl
  | _, _, .cons _ h => by rw [List.length_cons, List.length_cons, h.length]
theorem Trs.get {H : Hp} : ∀ {vs : List V} {ts : List Tr} {i : Nat} {v : V}, Trs H vs ts → vs[i]? = some v → ∃ p t, v = .ref p ∧ ts[i]? = some t ∧ H p = some (.tup (trV t))
  | _, _, 0, v, .cons e h, q => by cases q; exact ⟨_, _, rfl, rfl, e⟩
  | _, _, i + 1, v, .cons e h, q => h.get (i := i) q
/-- a list of such -/
def TrL (H : Hp) (v : V) (ts : List Tr) : Prop := ∃ a vs, v = .ref a ∧ H a = some (.lst vs) ∧ Trs H vs ts
theorem TrL.same {H H' : Hp} {v : V} {ts : List Tr} (h : TrL H v ts) (s : Same H H') : TrL H' v ts := by
  obtain ⟨a, vs, e, h1, h2⟩ := h
  exact ⟨a, vs, e, s _ _ h1, h2.same s⟩
end Bk

namespace Bk
open PySem PySem.Spec PyProof.Rows L2
/-! ### loaves that are dearer by what is baked when -/
def dearD (E : Nat → Int) (b : Nat) (d : Day) : Day := ⟨d.want, d.loaf + E b, d.keep, d.fine⟩
def addE (g : Good) (E : Nat → Int) : Good := ⟨g.days.mapIdx (dearD E), g.life⟩
theorem map_dear {α : Type} {f : Day → α} (h : ∀ E b d, f (dearD E b d) = f d) (E : Nat → Int) (ds : List Day) : (ds.mapIdx (dearD E)).map f = ds.map f := by
  apply List.ext_getElem?
  intro i
  rw [List.getElem?_map, List.getElem?_map, List.getElem?_mapIdx]
  cases ds[i]? with
  | none => rfl
  | some d => exact congrArg some (h E i d)
theorem keepsL_dear (E : Nat → Int) (ds : List Day) (i j : Nat) : keepsL (ds.mapIdx (dearD E)) i j = keepsL ds i j := by
  unfold keepsL
  rw [List.map_take, List.map_drop, map_dear (f := Day.keep) (fun _ _ _ => rfl), ← List.map_drop, ← List.map_take]
theorem finesL_dear (E : Nat → Int) (ds : List Day) (i j : Nat) : finesL (ds.mapIdx (dearD E)) i j = finesL ds i j := by
  unfold finesL
  rw [List.map_take, List.map_drop, map_dear (f := Day.fine) (fun _ _ _ => rfl), ← List.map_drop, ← List.map_take]
theorem loafP_dear (g : Good) (E : Nat → Int) (b k : Nat) : loafP (addE g E) b k = (loafP g b k).map (· + E b) := by
  unfold loafP addE
  dsimp only
  rw [List.getElem?_mapIdx, keepsL_dear, finesL_dear]
  cases g.days[b]? with
  | none => rfl
  | some d =>
    have e : ∀ z : Int, d.loaf + E b + z = d.loaf + z + E b := fun z => by omega
    show (if k < b then (finesL g.days k b).map (d.loaf + E b + ·) else _) = _
    dsimp only
    split
    · cases finesL g.days k b with
      | none => rfl
      | some z => exact congrArg some (e z)
    · cases g.life with
      | none => exact congrArg some (e _)
      | some l =>
        dsimp only
        split
        · rfl
        · exact congrArg some (e _)
theorem wantN_dear (g : Good) (E : Nat → Int) (k : Nat) : wantN (addE g E) k = wantN g k := by
  unfold wantN addE
  dsimp only
  rw [List.getElem?_mapIdx]
  cases g.days[k]? with
  | none => rfl
  | some d => rfl
theorem nonNeg_dear {g : Good} {E : Nat → Int} (N : NonNegW g.days) (hE : ∀ b, 0 ≤ E b) : NonNegW (addE g E).days := by
  have hm : ∀ d ∈ (addE g E).days, ∃ b d0, d0 ∈ g.days ∧ d = dearD E b d0 := fun d hd => by
    obtain ⟨i, hi⟩ := List.mem_iff_getElem?.mp hd
    unfold addE at hi
    dsimp only at hi
    rw [List.getElem?_mapIdx] at hi
    obtain ⟨d0, h1, h2⟩ := Option.map_eq_some_iff.mp hi
    exact ⟨i, d0, List.mem_of_getElem? h1, h2.symm⟩
  refine ⟨⟨fun d hd => ?_, fun d hd i hi => ?_⟩, fun d hd => ?_, fun d hd => ?_⟩
  · obtain ⟨b, d0, h, rfl⟩ := hm d hd
    exact N.nn.keep d0 h
  · obtain ⟨b, d0, h, rfl⟩ := hm d hd
    exact N.nn.fine d0 h i hi
  · obtain ⟨b, d0, h, rfl⟩ := hm d hd
    exact N.want d0 h
  · obtain ⟨b, d0, h, rfl⟩ := hm d hd
    have := N.loaf d0 h
    have := hE b
    show 0 ≤ d0.loaf + E b
    omega
/-! ### ladders that are let by -/
/-- a day's loaves, mixed on e and baked on b -/
def wantD (ds : List Dgh) (g : Good) (e b k : Nat) : Option Int := (wantP g b k).map (· + wantN g k * doughP ds e b)
structure Lad (ds : List Dgh) (g : Good) (lights : Nat → Int) (n : Nat) (F : Nat → Int) (M : Nat → Nat → Int) : Prop where
  zero : F 0 = 0
  low : ∀ e j, e < n → j ≤ n → F j ≤ M e j
  up : ∀ e j, e < n → j ≤ n → M e j ≤ F j + mixF ds e
  unwF : ∀ d, d < n → wantN g d = 0 → F (d + 1) ≤ F d
  unwM : ∀ e d, e < n → d < n → wantN g d = 0 → M e (d + 1) ≤ M e d
  climb : ∀ e b f m s, e ≤ b → b < n → f ≤ m → m < n → segP (wantD ds g e b) f (m + 1 - f) = some s → M e (m + 1) ≤ M e f + lights b + s
theorem wantD_of {ds : List Dgh} {g : Good} {e b k : Nat} {z : Int} (hk : k < g.days.length) (h : wantN g k ≠ 0 → ∃ y, loafP g b k = some y ∧ z = y + doughP ds e b) : wantD ds g e b k = some (wantN g k * z) := by
  unfold wantD
  by_cases w : wantN g k = 0
  · rw [wantP_of (z := 0) hk (fun x => absurd w x), w]
    show some (0 * 0 + 0 * doughP ds e b) = some (0 * z)
    congr 1
    omega
  · obtain ⟨y, h1, rfl⟩ := h w
    rw [wantP_of hk (fun _ => h1)]
    show some (wantN g k * y + wantN g k * doughP ds e b) = _
    rw [Int.mul_add]
theorem Lad.rest {ds : List Dgh} {g : Good} {lights F : Nat → Int} {M : Nat → Nat → Int} {N : Nat} (h : Lad ds g lights N F M) {e : Nat} (he : e < N) : ∀ n, n ≤ N → (∀ k, k < n → wantN g k = 0) → M e n ≤ M e 0
  | 0, _, _ => Int.le_refl _
  | n + 1, hn, hz => by
    have h1 := h.rest he n (by omega) fun k hk => hz k (by omega)
    have h2 := h.unwM e n he (by omega) (hz n (by omega))
    omega
theorem Lad.flat {ds : List Dgh} {g : Good} {lights F : Nat → Int} {M : Nat → Nat → Int} {N : Nat} (h : Lad ds g lights N F M) : ∀ n, n ≤ N → (∀ k, k < n → wantN g k = 0) → F n ≤ 0
  | 0, _, _ => Int.le_of_eq h.zero
  | n + 1, hn, hz => by
    have h1 := h.flat n (by omega) fun k hk => hz k (by omega)
    have h2 := h.unwF n (by omega) (hz n (by omega))
    omega
theorem doughP_far {ds : List Dgh} {x b c : Nat} (h1 : x ≤ b) (h2 : b ≤ c) (hc : c ≤ ds.length) : doughP ds x c = doughP ds x b + holdS ds b (c - b) := by
  unfold doughP
  have : ∀ j, b + j ≤ ds.length → holdS ds x (b + j - x) = holdS ds x (b - x) + holdS ds b j := by
    intro j
    induction j with
    | zero =>
      intro _
      show holdS ds x (b - x) = _ + 0
      omega
    | succ j ih =>
      intro hj
      rw [show b + (j + 1) - x = (b + j - x) + 1 by omega, holdS_succ (by omega), holdS_succ (by omega), ih (by omega), show x + (b + j - x) = b + j by omega]
      omega
  have := this (c - b) (by omega)
  rw [show b + (c - b) = c by omega] at this
  rw [this]
  omega
section
open Classical
theorem litSum_nonneg {L : Nat → Int} (hl : ∀ b, 0 ≤ L b) (S : Nat → Prop) (m : Nat) : 0 ≤ litSum L S m := sumN_nonneg m fun k _ => by
  show 0 ≤ (if S k then L k else 0)
  split
  · exact hl k
  · exact Int.le_refl 0
theorem litSum_sub {L : Nat → Int} (hl : ∀ b, 0 ≤ L b) {S T : Nat → Prop} (n : Nat) (h : ∀ b, b < n → S b → T b) : litSum L S n ≤ litSum L T n := by
  unfold litSum
  refine sumN_le n fun k hk => ?_
  have := hl k
  by_cases e : S k
  · rw [if_pos e, if_pos (h k hk e)]
    exact Int.le_refl _
  · rw [if_neg e]
    split <;> omega
theorem litSum_one {L : Nat → Int} (hl : ∀ b, 0 ≤ L b) {S T : Nat → Prop} {e : Nat} (n : Nat) (he : e < n) (hT : T e) (h : ∀ b, b < n → S b → T b ∧ b ≠ e) : litSum L S n + L e ≤ litSum L T n := by
  have g2 := sumN_one (L := L) n he
  rw [← g2]
  unfold litSum
  rw [← sumN_add]
  refine sumN_le n fun k hk => ?_
  have := hl k
  by_cases e1 : k = e
  · subst e1
    rw [if_neg (fun z => (h k hk z).2 rfl), if_pos rfl, if_pos hT]
    omega
  · rw [if_neg e1]
    by_cases e2 : S k
    · rw [if_pos e2, if_pos (h k hk e2).1]
      omega
    · rw [if_neg e2]
      split <;> omega
/-- no choice of days of mixing and of baking costs less than a ladder that is let by -/
theorem Lad.le_set {ds : List Dgh} {g : Good} {lights F : Nat → Int} {M : Nat → Nat → Int} {N : Nat} (h : Lad ds g lights N F M) (hN : N ≤ g.days.length) (hds : ds.length = N) (hl : ∀ b, 0 ≤ lights b) (hm : ∀ b, 0 ≤ mixF ds b) (W : NonNegW g.days) (hlf : ∀ l, g.life = some l → 0 ≤ l) {E : Nat → Int} (hE : ∀ b, 0 ≤ E b) :
    ∀ n, n ≤ N → ∀ (X S : Nat → Prop) (e : Nat) (p : Nat → Int) (c : Int), X e → e < N → (∀ x, X x → x ≤ e) → SetC (addE g E) lights S n p c → (∀ b, S b → b < n → ∃ x, X x ∧ x ≤ b ∧ doughP ds x b = E b) → (∀ b x, S b → b < n → X x → x ≤ b → E b ≤ doughP ds x b) → M e n ≤ litSum (mixF ds) X N + c := by
  have N1 := nonNeg_dear W hE
  have hlen : (addE g E).days.length = g.days.length := by unfold addE; dsimp only; rw [List.length_mapIdx]
  have hlf1 : ∀ l, (addE g E).life = some l → 0 ≤ l := hlf
  intro n
  induction n using Nat.strongRecOn with
  | ind n ih =>
    intro hn X S e p c hXe heN hXle hc hex hmin
    have ls0 := litSum_nonneg hl
    have mxe : mixF ds e ≤ litSum (mixF ds) X N := by
      have := litSum_one hm (S := fun _ => False) (T := X) (e := e) N heN hXe (fun b _ z => z.elim)
      have := litSum_nonneg hm (fun _ => False) N
      omega
    by_cases hw : ∃ k, k < n ∧ wantN (addE g E) k ≠ 0
    · obtain ⟨kl, hkl, wkl, lastk⟩ := exists_last hw
      obtain ⟨bs, hbs⟩ := sm_ex (hc.min kl hkl wkl)
      obtain ⟨f, ⟨hf1, hf2, hf3⟩, hf4⟩ := exists_least (P := fun k => k < n ∧ wantN (addE g E) k ≠ 0 ∧ Sm (addE g E) S n p k bs) ⟨kl, hkl, wkl, hbs⟩
      have hfk : f ≤ kl := by
        by_cases e : f ≤ kl
        · exact e
        · exact absurd ⟨hkl, wkl, hbs⟩ (hf4 kl (by omega))
      have hbn := hbs.lt
      have lo : ∀ k, k < f → wantN (addE g E) k ≠ 0 → ∃ b, Sm (addE g E) S n p k b ∧ b < f ∧ b < bs := by
        intro k hk wk
        obtain ⟨b, hb⟩ := sm_ex (hc.min k (by omega) wk)
        have h1 := sm_mono N1.nn (by omega) hk (hc.min k (by omega) wk) (hc.min f hf1 hf2) hb hf3
        have h2 : b ≠ bs := fun e => hf4 k hk ⟨by omega, wk, e ▸ hb⟩
        refine ⟨b, hb, ?_, by omega⟩
        by_cases e : b < f
        · exact e
        · exact absurd (sm_wait N1.nn hlf1 (by omega) hk (by omega) (hc.min k (by omega) wk) (hc.min f hf1 hf2) hb hf3).symm h2
      have hi : ∀ k, f ≤ k → k < n → wantN (addE g E) k ≠ 0 → loafP (addE g E) bs k = some (p k) := by
        intro k hk hkn wk
        have hkkl : k ≤ kl := by
          by_cases e : k ≤ kl
          · exact e
          · exact absurd wk (lastk k (by omega) hkn)
        obtain ⟨b, hb⟩ := sm_ex (hc.min k hkn wk)
        have h1 : bs ≤ b := by
          by_cases e : f = k
          · subst e
            exact Nat.le_of_eq (sm_uniq hf3 hb)
          · exact sm_mono N1.nn (by omega) (show f < k by omega) (hc.min f hf1 hf2) (hc.min k hkn wk) hf3 hb
        have h2 : b ≤ bs := by
          by_cases e : k = kl
          · subst e
            exact Nat.le_of_eq (sm_uniq hb hbs)
          · exact sm_mono N1.nn (by omega) (show k < kl by omega) (hc.min k hkn wk) (hc.min kl hkl wkl) hb hbs
        have : b = bs := by omega
        subst this
        exact hb.at_
      -- the last day of mixing that is best for bs
      obtain ⟨x0, hx1, hx2, hx3⟩ := hex bs hbs.mem hbn
      obtain ⟨es, hes, ⟨hse, hsm⟩, hlast⟩ := exists_last (n := bs + 1) (P := fun x => X x ∧ doughP ds x bs = E bs) ⟨x0, by omega, hx1, hx3⟩
      have hese : es ≤ e := hXle es hse
      -- the days ahead of the stretch
      have low : M es f ≤ litSum (mixF ds) (fun x => X x ∧ x ≤ es) N + (litSum lights (fun b => S b ∧ b < f ∧ b < bs) f + sumN (fun k => wantN (addE g E) k * p k) f) := by
        refine ih f hf1 (by omega) (fun x => X x ∧ x ≤ es) (fun b => S b ∧ b < f ∧ b < bs) es p _ ⟨hse, Nat.le_refl _⟩ (by omega) (fun x hx => hx.2) ⟨fun k hk wk => ?_, rfl⟩ (fun b hb hbf => ?_) (fun b x hb hbf hx hxb => hmin b x hb.1 (by omega) hx.1 hxb)
        · obtain ⟨b, hb, h1, h2⟩ := lo k hk wk
          exact ⟨⟨b, h1, ⟨hb.mem, h1, h2⟩, hb.at_⟩, fun b' hb' hs y hy => (hc.min k (by omega) wk).le b' (by omega) hs.1 y hy⟩
        · obtain ⟨x, y1, y2, y3⟩ := hex b hb.1 (by omega)
          by_cases z : x ≤ es
          · exact ⟨x, ⟨y1, z⟩, y2, y3⟩
          · exfalso
            have hbb := hb.2.2
            have a1 := doughP_far (ds := ds) (x := x) (b := b) (c := bs) y2 (by omega) (by omega)
            have a2 := doughP_far (ds := ds) (x := es) (b := b) (c := bs) (by omega) (by omega) (by omega)
            have a3 := hmin b es hb.1 (by omega) hse (by omega)
            have a4 := hmin bs x hbs.mem hbn y1 (by omega)
            exact hlast x (by omega) (by omega) ⟨y1, by omega⟩
      -- the stretch
      have seg : segP (wantD ds g es bs) f (n - f) = some (sumN (fun i => wantN g (f + i) * p (f + i)) (n - f)) := segP_of (q := fun k => wantN g k * p k) (n - f) fun i hi' => wantD_of (by omega) fun wk => by
        have := hi (f + i) (by omega) (by omega) (by rw [wantN_dear]; exact wk)
        rw [loafP_dear] at this
        obtain ⟨y, y1, y2⟩ := Option.map_eq_some_iff.mp this
        exact ⟨y, y1, by rw [hsm]; exact y2.symm⟩
      have climb := h.climb es bs f (n - 1) _ (by omega) (by omega) (by omega) (by omega) (by rw [show n - 1 + 1 - f = n - f by omega]; exact seg)
      rw [show n - 1 + 1 = n by omega] at climb
      have spl := sumN_split (fun k => wantN (addE g E) k * p k) f (n - f)
      rw [show f + (n - f) = n by omega] at spl
      have eqs : sumN (fun i => wantN (addE g E) (f + i) * p (f + i)) (n - f) = sumN (fun i => wantN g (f + i) * p (f + i)) (n - f) := sumN_congr _ fun i _ => by rw [wantN_dear]
      -- the lights
      have lit : litSum lights (fun b => S b ∧ b < f ∧ b < bs) f + lights bs ≤ litSum lights S n := by
        have g1 : litSum lights (fun b => S b ∧ b < f ∧ b < bs) f ≤ litSum lights (fun b => S b ∧ b < f ∧ b < bs) n := sumN_grow (by omega) fun k _ => by
          dsimp only
          split
          · exact hl k
          · exact Int.le_refl 0
        have g3 := litSum_one hl (S := fun b => S b ∧ b < f ∧ b < bs) (T := S) (e := bs) n hbn hbs.mem (fun b _ hb => ⟨hb.1, by omega⟩)
        omega
      have cc := hc.cost
      by_cases z : es = e
      · subst z
        have := litSum_sub hm (S := fun x => X x ∧ x ≤ es) (T := X) N (fun b _ hb => hb.1)
        omega
      · have u1 := h.up e n heN hn
        have u2 := h.low es n (by omega) hn
        have := litSum_one hm (S := fun x => X x ∧ x ≤ es) (T := X) (e := e) N heN hXe (fun b _ hb => ⟨hb.1, by omega⟩)
        omega
    · have z : ∀ k, k < n → wantN g k = 0 := fun k hk => Decidable.not_not.mp fun e => hw ⟨k, hk, by rw [wantN_dear]; exact e⟩
      have a := h.rest heN n hn z
      have u := h.up e 0 heN (by omega)
      rw [h.zero] at u
      have b := hc.cost
      rw [sumN_zero n fun k hk => by rw [wantN_dear, z k hk, Int.zero_mul]] at b
      have := ls0 S n
      omega
end
end Bk

namespace Bk
open PySem PySem.Spec PyProof.Rows L2
/-! ### a plan with doughs costs no less than a ladder that is let by -/
def metC (L : List Row4) (k : Nat) : Int := (L.map fun r => if r.c = k then r.m else 0).sum
theorem sum_group {n : Nat} (p : Nat → Int) : ∀ {L : List Row4}, (∀ r ∈ L, r.c < n) → (L.map fun r => r.m * p r.c).sum = sumN (fun k => metC L k * p k) n
  | [], _ => by
    rw [sumN_zero n fun k _ => by show (0 : Int) * p k = 0; rw [Int.zero_mul]]
    rfl
  | r :: L, h => by
    rw [List.map_cons, List.sum_cons, sum_group p fun x hx => h x (List.mem_cons_of_mem _ hx), ← sumN_one (L := fun k => r.m * p k) n (h r List.mem_cons_self), ← sumN_add]
    refine sumN_congr n fun k _ => ?_
    show (if k = r.c then r.m * p k else 0) + metC L k * p k = metC (r :: L) k * p k
    unfold metC
    rw [List.map_cons, List.sum_cons]
    by_cases e : r.c = k
    · rw [if_pos e.symm, if_pos e, Int.add_mul]
    · rw [if_neg (fun z => e z.symm), if_neg e, Int.zero_add, Int.zero_add]
theorem metC_mem {L : List Row4} {k : Nat} (h : metC L k ≠ 0) : ∃ r ∈ L, r.c = k := by
  induction L with
  | nil => exact absurd rfl h
  | cons x L ih =>
    by_cases e : x.c = k
    · exact ⟨x, List.mem_cons_self, e⟩
    · unfold metC at h ih
      rw [List.map_cons, List.sum_cons, if_neg e, Int.zero_add] at h
      obtain ⟨r, h1, h2⟩ := ih h
      exact ⟨r, List.mem_cons_of_mem _ h1, h2⟩
theorem sum_le_map {α : Type} {f h : α → Int} : ∀ {l : List α}, (∀ x ∈ l, f x ≤ h x) → (l.map f).sum ≤ (l.map h).sum
  | [], _ => Int.le_refl _
  | x :: l, hx => by
    rw [List.map_cons, List.map_cons, List.sum_cons, List.sum_cons]
    have a := hx x List.mem_cons_self
    have b := sum_le_map fun y hy => hx y (List.mem_cons_of_mem _ hy)
    omega
theorem exists_lowest {P : Nat → Prop} {v : Nat → Int} : ∀ n, (∃ x, x < n ∧ P x) → ∃ x, x < n ∧ P x ∧ ∀ y, y < n → P y → v x ≤ v y
  | 0, h => by
    obtain ⟨x, hx, _⟩ := h
    omega
  | n + 1, h => by
    by_cases h0 : ∃ x, x < n ∧ P x
    · obtain ⟨x, h1, h2, h3⟩ := exists_lowest (v := v) n h0
      by_cases hn : P n ∧ v n < v x
      · refine ⟨n, by omega, hn.1, fun y hy py => ?_⟩
        by_cases e : y = n
        · subst e; exact Int.le_refl _
        · have := h3 y (by omega) py
          omega
      · refine ⟨x, by omega, h2, fun y hy py => ?_⟩
        by_cases e : y = n
        · subst e
          exact Int.not_lt.mp fun z => hn ⟨py, z⟩
        · exact h3 y (by omega) py
    · obtain ⟨x, h1, h2⟩ := h
      have e : x = n := by
        by_cases e : x = n
        · exact e
        · exact absurd ⟨x, by omega, h2⟩ h0
      subst e
      refine ⟨x, by omega, h2, fun y hy py => ?_⟩
      by_cases e : y = x
      · subst e; exact Int.le_refl _
      · exact absurd ⟨y, by omega, py⟩ h0
theorem doughP_nonneg {ds : List Dgh} (hd : ∀ d ∈ ds, 0 ≤ d.dough ∧ 0 ≤ d.hold) (r s : Nat) : 0 ≤ doughP ds r s := by
  unfold doughP
  have h1 : 0 ≤ (dghAt ds r).dough := by
    unfold dghAt
    rw [List.getD_eq_getElem?_getD]
    cases e : ds[r]? with
    | none => exact Int.le_refl 0
    | some d => exact (hd d (List.mem_of_getElem? e)).1
  have h2 : 0 ≤ holdS ds r (s - r) := sum_nonneg' fun x hx => by
    obtain ⟨d, h1, rfl⟩ := List.mem_map.mp hx
    exact (hd d (List.mem_of_mem_drop (List.mem_of_mem_take h1))).2
  omega
section
open Classical
theorem Lad.le_plan {ds : List Dgh} {g : Good} {ls : List Int} {F : Nat → Int} {M : Nat → Nat → Int} {n : Nat} {L : List Row4} (h : Lad ds g (rowF ls) n F M) (hN : n = g.days.length) (hds : ds.length = n) (hl : ∀ b, 0 ≤ rowF ls b) (hd : ∀ d ∈ ds, 0 ≤ d.mix ∧ 0 ≤ d.dough ∧ 0 ≤ d.hold) (W : NonNegW g.days) (hlf : ∀ l, g.life = some l → 0 ≤ l)
    (hk : ∀ r ∈ L, KeyD g n r.k) (hpos : ∀ r ∈ L, 0 < r.m) (hmet : ∀ k, k < n → metC L k = wantN g k) : F n ≤ costD ds ls g n L := by
  have hm : ∀ b, 0 ≤ mixF ds b := fun b => by
    unfold mixF dghAt
    rw [List.getD_eq_getElem?_getD]
    cases e : ds[b]? with
    | none => exact Int.le_refl 0
    | some d => exact (hd d (List.mem_of_getElem? e)).1
  have hD := doughP_nonneg (ds := ds) fun d hx => (hd d hx).2
  cases L with
  | nil =>
    have z : ∀ k, k < n → wantN g k = 0 := fun k hk => (hmet k hk).symm
    have a := h.flat n (Nat.le_refl _) z
    have b1 := litSum_nonneg hm (fun d => d ∈ (([] : List Row4).map Row4.a)) n
    have b2 := litSum_nonneg hl (fun d => d ∈ (([] : List Row4).map Row4.b)) n
    have b3 : sumR (priceD ds g) ([] : List Row4) = 0 := rfl
    unfold costD litR
    omega
  | cons r0 L0 =>
    generalize hLL : r0 :: L0 = L at hk hpos hmet
    have hr0 : r0 ∈ L := by rw [← hLL]; exact List.mem_cons_self
    have key : ∀ r ∈ L, r.a ≤ r.b ∧ r.b < n ∧ r.c < n ∧ ∃ p, loafP g r.b r.c = some p := fun r hr => ⟨(hk r hr).ab, (hk r hr).b, (hk r hr).c, (hk r hr).p⟩
    -- the days of mixing, of baking
    let X : Nat → Prop := fun x => x ∈ L.map Row4.a
    let S : Nat → Prop := fun b => b ∈ L.map Row4.b
    have best : ∀ b, ∃ z : Int, (∃ x, X x ∧ x ≤ b) → ∃ x, X x ∧ x ≤ b ∧ doughP ds x b = z ∧ ∀ y, X y → y ≤ b → z ≤ doughP ds y b := fun b => by
      by_cases hx : ∃ x, X x ∧ x ≤ b
      · obtain ⟨x, h1, h2⟩ := hx
        obtain ⟨x, g1, g2, g3⟩ := exists_lowest (P := X) (v := fun x => doughP ds x b) (b + 1) ⟨x, by omega, h1⟩
        exact ⟨doughP ds x b, fun _ => ⟨x, g2, by omega, rfl, fun y hy hyb => g3 y (by omega) hy⟩⟩
      · exact ⟨0, fun z => absurd z hx⟩
    let E : Nat → Int := fun b => if (∃ x, X x ∧ x ≤ b) then choose (best b) else 0
    have hE : ∀ b, (∃ x, X x ∧ x ≤ b) → ∃ x, X x ∧ x ≤ b ∧ doughP ds x b = E b ∧ ∀ y, X y → y ≤ b → E b ≤ doughP ds y b := fun b hx => by
      have := choose_spec (best b) hx
      rw [show E b = choose (best b) from if_pos hx]
      exact this
    have hE0 : ∀ b, 0 ≤ E b := fun b => by
      by_cases hx : ∃ x, X x ∧ x ≤ b
      · obtain ⟨x, _, _, h3, _⟩ := hE b hx
        rw [← h3]
        exact hD x b
      · rw [show E b = 0 from if_neg hx]
        exact Int.le_refl 0
    have hSX : ∀ b, S b → ∃ x, X x ∧ x ≤ b := fun b hb => by
      obtain ⟨r, hr, rfl⟩ := List.mem_map.mp hb
      exact ⟨r.a, List.mem_map.mpr ⟨r, hr, rfl⟩, (key r hr).1⟩
    -- the last day of mixing
    obtain ⟨e, he, heX, hlast⟩ := exists_last (n := n) (P := X) ⟨r0.a, by have := key r0 hr0; omega, List.mem_map.mpr ⟨r0, hr0, rfl⟩⟩
    have hXe : ∀ x, X x → x ≤ e := fun x hx => by
      obtain ⟨r, hr, rfl⟩ := List.mem_map.mp hx
      have := key r hr
      exact Nat.le_of_not_lt fun z => hlast r.a z (by omega) hx
    -- the least price of each wanted day
    have pex : ∀ k, ∃ z, k < n → wantN (addE g E) k ≠ 0 → MinP (addE g E) S n k z := fun k => by
      by_cases hw : k < n ∧ wantN (addE g E) k ≠ 0
      · have hw2 : metC L k ≠ 0 := by
          rw [hmet k hw.1]
          have := hw.2
          rw [wantN_dear] at this
          exact this
        obtain ⟨r, hr, rfl⟩ := metC_mem hw2
        obtain ⟨k1, k2, k3, p, k4⟩ := key r hr
        obtain ⟨z, hz⟩ := exists_min (g := addE g E) (S := S) (k := r.c) n ⟨r.b, _, k2, List.mem_map.mpr ⟨r, hr, rfl⟩, by rw [loafP_dear, k4]; rfl⟩
        exact ⟨z, fun _ _ => hz⟩
      · exact ⟨0, fun a b => absurd ⟨a, b⟩ hw⟩
    let p : Nat → Int := fun k => choose (pex k)
    have hp : ∀ k, k < n → wantN (addE g E) k ≠ 0 → MinP (addE g E) S n k (p k) := fun k => choose_spec (pex k)
    have main := h.le_set (by omega) hds hl hm W hlf hE0 n (Nat.le_refl _) X S e p _ heX he hXe ⟨hp, rfl⟩ (fun b hb _ => by
      obtain ⟨x, a1, a2, a3, _⟩ := hE b (hSX b hb)
      exact ⟨x, a1, a2, a3⟩) (fun b x hb _ hx hxb => by
      obtain ⟨_, _, _, _, a4⟩ := hE b (hSX b hb)
      exact a4 x hx hxb)
    have lowF := h.low e n he (Nat.le_refl _)
    have grp := sum_group (n := n) p (L := L) fun r hr => (key r hr).2.2.1
    have e1 : sumN (fun k => wantN (addE g E) k * p k) n = sumN (fun k => metC L k * p k) n := sumN_congr n fun k hk => by rw [wantN_dear, hmet k hk]
    have e2 : (L.map fun r => r.m * p r.c).sum ≤ sumR (priceD ds g) L := sum_le_map fun r hr => by
      obtain ⟨k1, k2, k3, q, k4⟩ := key r hr
      have hm0 := hpos r hr
      refine Int.mul_le_mul_of_nonneg_left ?_ (by omega)
      have hw : wantN (addE g E) r.c ≠ 0 := by
        rw [wantN_dear, ← hmet r.c k3]
        have : ∀ {l : List Row4}, (∀ x ∈ l, 0 < x.m) → r ∈ l → 0 < metC l r.c := by
          intro l
          induction l with
          | nil => intro _ h; cases h
          | cons y l ih =>
            intro hy hr
            unfold metC at ih ⊢
            rw [List.map_cons, List.sum_cons]
            have nn : 0 ≤ (l.map fun x => if x.c = r.c then x.m else 0).sum := sum_nonneg' fun z hz => by
              obtain ⟨x, hx, rfl⟩ := List.mem_map.mp hz
              have := hy x (List.mem_cons_of_mem _ hx)
              split <;> omega
            rcases List.mem_cons.mp hr with rfl | hr
            · rw [if_pos rfl]
              omega
            · have := ih (fun x hx => hy x (List.mem_cons_of_mem _ hx)) hr
              have := hy y List.mem_cons_self
              split <;> omega
        have := this hpos hr
        omega
      have le := (hp r.c k3 hw).le r.b k2 (List.mem_map.mpr ⟨r, hr, rfl⟩) (q + E r.b) (by rw [loafP_dear, k4]; rfl)
      obtain ⟨_, _, _, _, a4⟩ := hE r.b ⟨r.a, List.mem_map.mpr ⟨r, hr, rfl⟩, k1⟩
      have := a4 r.a (List.mem_map.mpr ⟨r, hr, rfl⟩) k1
      show p r.c ≤ doughP ds r.a r.b + (loafP g r.b r.c).getD 0
      rw [k4]
      show p r.c ≤ doughP ds r.a r.b + q
      omega
    show F n ≤ litSum (mixF ds) X n + litSum (rowF ls) S n + sumR (priceD ds g) L
    omega
end
end Bk

namespace Bk
open PySem PySem.Spec PyProof.Rows L2
/-! ### the ladder whose rungs are least costs -/
def ChD (ds : List Dgh) (g : Good) (lights : Nat → Int) (n : Nat) (M : Nat → Nat → Int) (e d : Nat) (v : Int) : Prop := (∃ b f s, e ≤ b ∧ b < n ∧ f ≤ d ∧ segP (wantD ds g e b) f (d + 1 - f) = some s ∧ v = M e f + lights b + s) ∨ (wantN g d = 0 ∧ v = M e d)
structure Bld (ds : List Dgh) (g : Good) (lights : Nat → Int) (n : Nat) (F : Nat → Int) (M : Nat → Nat → Int) (N : Nat) : Prop where
  zero : F 0 = 0
  mzero : ∀ e, e < n → M e 0 = mixF ds e
  fex : ∀ d, d < N → (∃ e v, e < n ∧ ChD ds g lights n M e d v ∧ F (d + 1) = v) ∨ (wantN g d = 0 ∧ F (d + 1) = F d)
  fle : ∀ d e v, d < N → e < n → ChD ds g lights n M e d v → F (d + 1) ≤ v
  fun0 : ∀ d, d < N → wantN g d = 0 → F (d + 1) ≤ F d
  mex : ∀ e d, e < n → d < N → ChD ds g lights n M e d (M e (d + 1)) ∨ M e (d + 1) = F (d + 1) + mixF ds e
  mle : ∀ e d v, e < n → d < N → ChD ds g lights n M e d v → M e (d + 1) ≤ v
  mup : ∀ e d, e < n → d < N → M e (d + 1) ≤ F (d + 1) + mixF ds e
section
variable {ds : List Dgh} {g : Good} {lights F : Nat → Int} {M : Nat → Nat → Int} {n : Nat}
theorem Bld.lad (h : Bld ds g lights n F M n) (hm : ∀ b, 0 ≤ mixF ds b) : Lad ds g lights n F M := by
  refine ⟨h.zero, fun e j he hj => ?_, fun e j he hj => ?_, fun d hd hw => h.fun0 d hd hw, fun e d he hd hw => h.mle e d _ he hd (.inr ⟨hw, rfl⟩), fun e b f m s h1 h2 h3 h4 h5 => h.mle e m _ (by omega) h4 (.inl ⟨b, f, s, h1, h2, h3, h5, rfl⟩)⟩
  · have := hm e
    cases j with
    | zero => rw [h.zero, h.mzero e he]; exact this
    | succ d =>
      rcases h.mex e d he (by omega) with c | c
      · exact h.fle d e _ (by omega) he c
      · omega
  · cases j with
    | zero => rw [h.zero, h.mzero e he, Int.zero_add]; exact Int.le_refl _
    | succ d => exact h.mup e d he (by omega)
theorem ChD.congr {M' : Nat → Nat → Int} {e d : Nat} {v : Int} (h : ChD ds g lights n M e d v) (hM : ∀ f, f ≤ d → M e f = M' e f) : ChD ds g lights n M' e d v := by
  rcases h with ⟨b, f, s, h1, h2, h3, h4, h5⟩ | ⟨h1, h2⟩
  · exact .inl ⟨b, f, s, h1, h2, h3, h4, by rw [← hM f h3]; exact h5⟩
  · exact .inr ⟨h1, by rw [← hM d (Nat.le_refl _)]; exact h2⟩
theorem Bld.ext {F' : Nat → Int} {M' : Nat → Nat → Int} {N : Nat} (h : Bld ds g lights n F M N) (h' : Bld ds g lights n F' M' N) : ∀ j, j ≤ N → F j = F' j ∧ ∀ e, e < n → M e j = M' e j := by
  intro j
  induction j using Nat.strongRecOn with
  | ind j ih =>
    intro hj
    cases j with
    | zero => exact ⟨by rw [h.zero, h'.zero], fun e he => by rw [h.mzero e he, h'.mzero e he]⟩
    | succ d =>
      have c1 : ∀ e v, e < n → ChD ds g lights n M e d v → ChD ds g lights n M' e d v := fun e v he c => c.congr fun f hf => (ih f (by omega) (by omega)).2 e he
      have c2 : ∀ e v, e < n → ChD ds g lights n M' e d v → ChD ds g lights n M e d v := fun e v he c => c.congr fun f hf => ((ih f (by omega) (by omega)).2 e he).symm
      have eF : F (d + 1) = F' (d + 1) := by
        have a : F' (d + 1) ≤ F (d + 1) := by
          rcases h.fex d (by omega) with ⟨e, v, he, c, ev⟩ | ⟨hw, ev⟩
          · rw [ev]; exact h'.fle d e v (by omega) he (c1 e v he c)
          · rw [ev, (ih d (by omega) (by omega)).1]; exact h'.fun0 d (by omega) hw
        have b : F (d + 1) ≤ F' (d + 1) := by
          rcases h'.fex d (by omega) with ⟨e, v, he, c, ev⟩ | ⟨hw, ev⟩
          · rw [ev]; exact h.fle d e v (by omega) he (c2 e v he c)
          · rw [ev, ← (ih d (by omega) (by omega)).1]; exact h.fun0 d (by omega) hw
        omega
      refine ⟨eF, fun e he => ?_⟩
      have a : M' e (d + 1) ≤ M e (d + 1) := by
        rcases h.mex e d he (by omega) with c | c
        · exact h'.mle e d _ he (by omega) (c1 e _ he c)
        · rw [c, eF]; exact h'.mup e d he (by omega)
      have b : M e (d + 1) ≤ M' e (d + 1) := by
        rcases h'.mex e d he (by omega) with c | c
        · exact h.mle e d _ he (by omega) (c2 e _ he c)
        · rw [c, ← eF]; exact h.mup e d he (by omega)
      omega
/-! ### walked back -/
structure Stp where
  e : Nat
  b : Nat
  f : Nat
  m : Nat
variable (ds g lights F M n)
def lastD (e m : Nat) : List (Nat × Nat × Nat) := (List.range (n - e)).filterMap fun i => (fbo (M e) (wantD ds g e (e + i)) (M e m) m (lights (e + i))).map fun f => (e, e + i, f)
def lastF (m : Nat) : List (Nat × Nat × Nat) := (List.range n).flatMap fun e => if M e m = F m then lastD ds g lights M n e m else []
/-- the mixing that is still paid for -/
def paid (m : Nat) : Option Nat → Option Nat
  | none => none
  | some e => if M e m = F m + mixF ds e then none else some e
def rungs (o : Option Nat) (j : Nat) : Int := match o with
  | none => F j
  | some e => M e j
def picks (o : Option Nat) (m : Nat) : List (Nat × Nat × Nat) := match o with
  | none => lastF ds g lights F M n m
  | some e => lastD ds g lights M n e m
def walkD : Nat → Nat → Option Nat → List Stp
  | 0, _, _ => []
  | _ + 1, 0, _ => []
  | k + 1, m + 1, day => if wantN g m = 0 ∧ rungs F M (paid ds F M (m + 1) day) (m + 1) = rungs F M (paid ds F M (m + 1) day) m then walkD k m (paid ds F M (m + 1) day)
    else match picks ds g lights F M n (paid ds F M (m + 1) day) (m + 1) with
      | [] => []
      | (e, b, f) :: _ => ⟨e, b, f, m + 1⟩ :: walkD k f (some e)
variable {ds g lights F M n}
theorem lastD_mem {e m : Nat} {x : Nat × Nat × Nat} (h : x ∈ lastD ds g lights M n e m) : x.1 = e ∧ e ≤ x.2.1 ∧ (e < n → x.2.1 < n) ∧ x.2.2 < m ∧ ∃ s, segP (wantD ds g e x.2.1) x.2.2 (m - x.2.2) = some s ∧ M e m = M e x.2.2 + lights x.2.1 + s := by
  obtain ⟨i, hi, hx⟩ := List.mem_filterMap.mp h
  obtain ⟨f, hf, rfl⟩ := Option.map_eq_some_iff.mp hx
  obtain ⟨h1, s, h2, h3⟩ := fbo_some hf
  have := List.mem_range.mp hi
  exact ⟨rfl, by show e ≤ e + i; omega, fun _ => by show e + i < n; omega, h1, s, h2, h3.symm⟩
theorem lastD_ex {e m b f : Nat} {s : Int} (he : e ≤ b) (hb : b < n) (hf : f < m) (hs : segP (wantD ds g e b) f (m - f) = some s) (hv : M e f + lights b + s = M e m) : lastD ds g lights M n e m ≠ [] := by
  obtain ⟨f', hf'⟩ := fbo_ex (row := M e) (T := M e m) hf hs hv
  intro z
  have : (e, b, f') ∈ lastD ds g lights M n e m := List.mem_filterMap.mpr ⟨b - e, List.mem_range.mpr (by omega), by rw [show e + (b - e) = b by omega, hf']; rfl⟩
  rw [z] at this
  cases this
theorem lastF_mem {m : Nat} {x : Nat × Nat × Nat} (h : x ∈ lastF ds g lights F M n m) : x.1 < n ∧ M x.1 m = F m ∧ x ∈ lastD ds g lights M n x.1 m := by
  obtain ⟨e, he, hx⟩ := List.mem_flatMap.mp h
  have he := List.mem_range.mp he
  by_cases z : M e m = F m
  · rw [if_pos z] at hx
    have := (lastD_mem hx).1
    rw [this]
    exact ⟨he, z, hx⟩
  · rw [if_neg z] at hx
    cases hx
theorem lastF_ex {m e : Nat} (he : e < n) (h1 : M e m = F m) (h2 : lastD ds g lights M n e m ≠ []) : lastF ds g lights F M n m ≠ [] := by
  obtain ⟨x, l, e1⟩ := List.exists_cons_of_ne_nil h2
  intro z
  have : x ∈ lastF ds g lights F M n m := List.mem_flatMap.mpr ⟨e, List.mem_range.mpr he, by rw [if_pos h1, e1]; exact List.mem_cons_self⟩
  rw [z] at this
  cases this
/-- where nothing can rest, there is a stretch -/
theorem picks_ex (h : Bld ds g lights n F M n) {m : Nat} (hm : m < n) (hmix : ∀ b, 0 ≤ mixF ds b) {o : Option Nat} (ho : ∀ e, o = some e → e < n ∧ M e (m + 1) ≠ F (m + 1) + mixF ds e) (hr : ¬ (wantN g m = 0 ∧ rungs F M o (m + 1) = rungs F M o m)) : picks ds g lights F M n o (m + 1) ≠ [] := by
  have L := h.lad hmix
  cases o with
  | none =>
    have hr : ¬ (wantN g m = 0 ∧ F (m + 1) = F m) := hr
    rcases h.fex m hm with ⟨e, v, he, c, ev⟩ | z
    · rcases c with ⟨b, f, s, c1, c2, c3, c4, c5⟩ | ⟨c1, c2⟩
      · have a1 := L.low e (m + 1) he (by omega)
        have a2 := h.mle e m v he hm (.inl ⟨b, f, s, c1, c2, c3, c4, c5⟩)
        exact lastF_ex he (by omega) (lastD_ex c1 c2 (by omega) c4 (by omega))
      · have a1 := L.low e m he (by omega)
        have a2 := h.fun0 m hm c1
        exact absurd ⟨c1, by omega⟩ hr
    · exact absurd z hr
  | some e =>
    obtain ⟨he, hne⟩ := ho e rfl
    have hr : ¬ (wantN g m = 0 ∧ M e (m + 1) = M e m) := hr
    rcases h.mex e m he hm with c | c
    · rcases c with ⟨b, f, s, c1, c2, c3, c4, c5⟩ | z
      · exact lastD_ex c1 c2 (by omega) c4 (by omega)
      · exact absurd z hr
    · exact absurd c hne
end
end Bk

namespace Bk
open PySem PySem.Spec PyProof.Rows L2
theorem strE_more (g : Good) (b f i : Nat) : strE g b f (f + (i + 1)) = strE g b f (f + i) ++ (if wantN g (f + i) ≠ 0 then [(b, f + i)] else []) := by
  unfold strE
  rw [show f + (i + 1) - f = i + 1 by omega, show f + i - f = i by omega, List.range_succ, List.map_append, List.filter_append, List.map_append]
  congr 1
  by_cases e : wantN g (f + i) ≠ 0
  · rw [if_pos e]
    simp [e]
  · rw [if_neg e]
    simp only [List.map_cons, List.map_nil]
    rw [List.filter_cons_of_neg (by simpa using e)]
    rfl
theorem strE_zero (g : Good) (b f : Nat) : strE g b f f = [] := by
  unfold strE
  rw [Nat.sub_self]
  rfl
theorem strE_mem {g : Good} {b f m : Nat} {x : Nat × Nat} (h : x ∈ strE g b f m) : x.1 = b ∧ f ≤ x.2 ∧ x.2 < m ∧ wantN g x.2 ≠ 0 := by
  unfold strE at h
  obtain ⟨k, hk, rfl⟩ := List.mem_map.mp h
  obtain ⟨h1, h2⟩ := List.mem_filter.mp hk
  obtain ⟨i, hi, rfl⟩ := List.mem_map.mp h1
  have := List.mem_range.mp hi
  exact ⟨rfl, by show f ≤ f + i; omega, by show f + i < m; omega, of_decide_eq_true h2⟩
/-! ### the plan of a walk back -/
def rowW (g : Good) (e : Nat) (x : Nat × Nat) : Row4 := ⟨e, x.1, x.2, wantN g x.2⟩
def rowsS (g : Good) (s : Stp) : List Row4 := (strE g s.b s.f s.m).map (rowW g s.e)
def planW (g : Good) (W : List Stp) : List Row4 := W.flatMap (rowsS g)
theorem metC_app (L L' : List Row4) (k : Nat) : metC (L ++ L') k = metC L k + metC L' k := by
  unfold metC
  rw [List.map_append, List.sum_append]
theorem sumR_app (f : K3 → Int) (L L' : List Row4) : sumR f (L ++ L') = sumR f L + sumR f L' := by
  unfold sumR
  rw [List.map_append, List.sum_append]
inductive WOk (ds : List Dgh) (g : Good) (n : Nat) : Nat → List Stp → Prop
  | nil {m : Nat} : (∀ k, k < m → wantN g k = 0) → WOk ds g n m []
  | cons {m : Nat} {s : Stp} {W : List Stp} : s.m ≤ m → (∀ k, s.m ≤ k → k < m → wantN g k = 0) → s.f < s.m → s.e ≤ s.b → s.b < n → (∃ z, segP (wantD ds g s.e s.b) s.f (s.m - s.f) = some z) → WOk ds g n s.f W → WOk ds g n m (s :: W)
theorem WOk.more {ds : List Dgh} {g : Good} {n m m' : Nat} {W : List Stp} (h : WOk ds g n m W) (hm : m ≤ m') (hz : ∀ k, m ≤ k → k < m' → wantN g k = 0) : WOk ds g n m' W := by
  cases h with
  | nil z =>
    refine .nil fun k hk => ?_
    by_cases e : k < m
    · exact z k e
    · exact hz k (by omega) hk
  | cons a b c d e f t =>
    refine .cons (by omega) (fun k h1 h2 => ?_) c d e f t
    by_cases e : k < m
    · exact b k h1 e
    · exact hz k (by omega) h2
section
variable {ds : List Dgh} {g : Good} {n : Nat}
theorem wantD_inv {e b k : Nat} {z : Int} (h : wantD ds g e b k = some z) : (wantN g k = 0 ∧ z = 0) ∨ ∃ y, loafP g b k = some y ∧ z = wantN g k * (doughP ds e b + y) := by
  unfold wantD at h
  obtain ⟨c, h1, rfl⟩ := Option.map_eq_some_iff.mp h
  rcases wantP_inv h1 with ⟨h2, rfl⟩ | ⟨y, h2, rfl⟩
  · exact .inl ⟨h2, by rw [h2]; omega⟩
  · exact .inr ⟨y, h2, by rw [Int.mul_add]; omega⟩
theorem seg_rows {e b f : Nat} : ∀ {j : Nat} {s : Int}, segP (wantD ds g e b) f j = some s → s = sumR (priceD ds g) ((strE g b f (f + j)).map (rowW g e)) ∧ ∀ x ∈ strE g b f (f + j), ∃ p, loafP g b x.2 = some p
  | 0, s, h => by
    have h : (0 : Int) = s := Option.some.inj h
    rw [Nat.add_zero, strE_zero]
    exact ⟨h.symm, fun x hx => nomatch hx⟩
  | j + 1, s, h => by
    obtain ⟨x, y, h1, h2, h3⟩ := segP_succ h
    obtain ⟨a, c⟩ := seg_rows h1
    rw [strE_more]
    rcases wantD_inv h2 with ⟨w, rfl⟩ | ⟨p, hp, rfl⟩
    · rw [if_neg (fun z => z w), List.append_nil]
      exact ⟨by omega, c⟩
    · by_cases w : wantN g (f + j) ≠ 0
      · rw [if_pos w, List.map_append, sumR_app]
        refine ⟨?_, fun x hx => ?_⟩
        · rw [h3, a]
          congr 1
          show _ = wantN g (f + j) * (doughP ds e b + (loafP g b (f + j)).getD 0) + 0
          rw [hp, Int.add_zero]
          rfl
        · rcases List.mem_append.mp hx with hx | hx
          · exact c x hx
          · rw [List.mem_singleton.mp hx]
            exact ⟨p, hp⟩
      · rw [if_neg w, List.append_nil]
        have w : wantN g (f + j) = 0 := Decidable.not_not.mp w
        rw [w, Int.zero_mul] at h3
        exact ⟨by omega, c⟩
theorem metC_str {e b f : Nat} : ∀ (j k : Nat), metC ((strE g b f (f + j)).map (rowW g e)) k = if f ≤ k ∧ k < f + j then wantN g k else 0
  | 0, k => by
    rw [Nat.add_zero, strE_zero, if_neg (by omega)]
    rfl
  | j + 1, k => by
    rw [strE_more, List.map_append, metC_app, metC_str j k]
    by_cases w : wantN g (f + j) ≠ 0
    · rw [if_pos w]
      show (if f ≤ k ∧ k < f + j then wantN g k else 0) + ((if f + j = k then wantN g (f + j) else 0) + 0) = _
      by_cases c : k = f + j
      · subst c
        rw [if_neg (by omega), if_pos rfl, if_pos (by omega)]
        omega
      · rw [if_neg (show ¬ f + j = k from fun z => c z.symm)]
        by_cases c2 : f ≤ k ∧ k < f + j
        · rw [if_pos c2, if_pos (by omega)]
          omega
        · rw [if_neg c2, if_neg (by omega)]
          rfl
    · rw [if_neg w]
      have w : wantN g (f + j) = 0 := Decidable.not_not.mp w
      show (if f ≤ k ∧ k < f + j then wantN g k else 0) + 0 = _
      by_cases c : k = f + j
      · subst c
        rw [if_neg (by omega), if_pos (by omega), w]
        rfl
      · by_cases c2 : f ≤ k ∧ k < f + j
        · rw [if_pos c2, if_pos (by omega)]
          omega
        · rw [if_neg c2, if_neg (by omega)]
          rfl
theorem rowsS_mem {s : Stp} {r : Row4} (h : r ∈ rowsS g s) : r.a = s.e ∧ r.b = s.b ∧ s.f ≤ r.c ∧ r.c < s.m ∧ wantN g r.c ≠ 0 ∧ r.m = wantN g r.c := by
  obtain ⟨x, hx, rfl⟩ := List.mem_map.mp h
  obtain ⟨h1, h2, h3, h4⟩ := strE_mem hx
  exact ⟨rfl, h1, h2, h3, h4, rfl⟩
/-- each wanted day is met, once -/
theorem WOk.met {m : Nat} {W : List Stp} (h : WOk ds g n m W) : ∀ k, metC (planW g W) k = if k < m then wantN g k else 0 := by
  induction h with
  | @nil m z =>
    intro k
    show (0 : Int) = _
    split
    · rename_i hk
      exact (z k hk).symm
    · rfl
  | @cons m s W a b c d e f t ih =>
    intro k
    show metC (rowsS g s ++ planW g W) k = _
    rw [metC_app, ih k]
    have := metC_str (g := g) (e := s.e) (b := s.b) (f := s.f) (s.m - s.f) k
    rw [show s.f + (s.m - s.f) = s.m by omega] at this
    unfold rowsS
    rw [this]
    by_cases k1 : k < s.f
    · rw [if_neg (by omega), if_pos k1, if_pos (by omega)]
      omega
    · rw [if_neg k1]
      by_cases k2 : k < s.m
      · rw [if_pos (by omega), if_pos (by omega)]
        omega
      · rw [if_neg (by omega)]
        by_cases k3 : k < m
        · rw [if_pos k3, b k (by omega) k3]
          rfl
        · rw [if_neg k3]
          rfl
theorem WOk.rows {m : Nat} {W : List Stp} (h : WOk ds g n m W) : (∀ r ∈ planW g W, r.a ≤ r.b ∧ r.b < n ∧ r.c < m ∧ (∃ p, loafP g r.b r.c = some p) ∧ wantN g r.c ≠ 0 ∧ r.m = wantN g r.c ∧ r.a ∈ W.map Stp.e ∧ r.b ∈ W.map Stp.b) ∧ ((planW g W).map Row4.c).Nodup ∧ (planW g W).length ≤ m := by
  induction h with
  | nil z => exact ⟨(fun r hr => nomatch hr), List.nodup_nil, Nat.zero_le _⟩
  | @cons m s W a b c d e f t ih =>
    obtain ⟨h1, h2, h3⟩ := ih
    obtain ⟨z, hz⟩ := f
    have hsr := (seg_rows hz).2
    rw [show s.f + (s.m - s.f) = s.m by omega] at hsr
    refine ⟨fun r hr => ?_, ?_, ?_⟩
    · rcases List.mem_append.mp (show r ∈ rowsS g s ++ planW g W from hr) with hr | hr
      · obtain ⟨x, hx, rfl⟩ := List.mem_map.mp hr
        obtain ⟨k1, k2, k3, k4⟩ := strE_mem hx
        obtain ⟨p, hp⟩ := hsr x hx
        refine ⟨?_, ?_, ?_, ⟨p, ?_⟩, k4, rfl, ?_, ?_⟩
        · show s.e ≤ x.1
          rw [k1]; exact d
        · show x.1 < n
          rw [k1]; exact e
        · show x.2 < m
          omega
        · show loafP g x.1 x.2 = some p
          rw [k1]; exact hp
        · exact List.mem_cons_self
        · show x.1 ∈ s.b :: W.map Stp.b
          rw [k1]; exact List.mem_cons_self
      · obtain ⟨a1, a2, a3, a4, a5, a6, a7, a8⟩ := h1 r hr
        exact ⟨a1, a2, by omega, a4, a5, a6, List.mem_cons_of_mem _ a7, List.mem_cons_of_mem _ a8⟩
    · show ((rowsS g s ++ planW g W).map Row4.c).Nodup
      rw [List.map_append, List.nodup_append]
      refine ⟨?_, h2, fun x hx y hy => ?_⟩
      · have e1 : (rowsS g s).map Row4.c = ((List.range (s.m - s.f)).map fun i => s.f + i).filter fun k => decide (wantN g k ≠ 0) := by
          unfold rowsS strE
          rw [List.map_map, List.map_map]
          exact List.map_id _
        rw [e1]
        refine List.Nodup.sublist List.filter_sublist ?_
        exact List.pairwise_map.mpr (List.nodup_range.imp fun h z => h (by omega))
      · obtain ⟨r, hr, rfl⟩ := List.mem_map.mp hx
        obtain ⟨q, hq, rfl⟩ := List.mem_map.mp hy
        have := (rowsS_mem hr).2.2.1
        have := (h1 q hq).2.2.1
        omega
    · show (rowsS g s ++ planW g W).length ≤ m
      rw [List.length_append]
      have : (rowsS g s).length ≤ s.m - s.f := by
        unfold rowsS strE
        rw [List.length_map, List.length_map]
        refine Nat.le_trans (List.length_filter_le _ _) ?_
        rw [List.length_map, List.length_range]
        exact Nat.le_refl _
      omega
end
section
open Classical
theorem litSum_or {L : Nat → Int} (hl : ∀ b, 0 ≤ L b) {S T : Nat → Prop} {e : Nat} (n : Nat) (he : e < n) (h : ∀ b, b < n → T b → S b ∨ b = e) : litSum L T n ≤ litSum L S n + L e := by
  have g2 := sumN_one (L := L) n he
  rw [← g2]
  unfold litSum
  rw [← sumN_add]
  refine sumN_le n fun k hk => ?_
  have := hl k
  by_cases e1 : T k
  · rw [if_pos e1]
    rcases h k hk e1 with e2 | e2
    · rw [if_pos e2]
      split <;> omega
    · rw [if_pos e2]
      split <;> omega
  · rw [if_neg e1]
    split <;> split <;> omega
variable {ds : List Dgh} {g : Good} {lights F : Nat → Int} {M : Nat → Nat → Int} {n : Nat}
noncomputable def owed (ds : List Dgh) (g : Good) (lights : Nat → Int) (n : Nat) (o : Option Nat) (W : List Stp) : Int := litSum (mixF ds) (fun x => x ∈ W.map Stp.e ∨ o = some x) n + litSum lights (fun b => b ∈ W.map Stp.b) n + sumR (priceD ds g) (planW g W)
/-- the walk back meets all wants, at no more than the rung tells -/
theorem walk_ok (h : Bld ds g lights n F M n) (hm : ∀ b, 0 ≤ mixF ds b) (hl : ∀ b, 0 ≤ lights b) : ∀ k m o, m ≤ k → m ≤ n → (∀ e, o = some e → e < n) → WOk ds g n m (walkD ds g lights F M n k m o) ∧ owed ds g lights n o (walkD ds g lights F M n k m o) ≤ rungs F M o m := by
  have stop : ∀ o, (∀ e, o = some e → e < n) → owed ds g lights n o [] ≤ rungs F M o 0 := fun o ho => by
    unfold owed
    have e1 : litSum lights (fun b => b ∈ ([] : List Stp).map Stp.b) n = 0 := sumN_zero n fun k _ => if_neg (by simp)
    have e2 : sumR (priceD ds g) (planW g []) = 0 := rfl
    rw [e1, e2]
    cases o with
    | none =>
      have e3 : litSum (mixF ds) (fun x => x ∈ ([] : List Stp).map Stp.e ∨ (none : Option Nat) = some x) n = 0 := sumN_zero n fun k _ => if_neg (by simp)
      rw [e3]
      show (0 : Int) + 0 + 0 ≤ F 0
      rw [h.zero]
      decide
    | some e =>
      have he := ho e rfl
      have := litSum_or hm (S := fun _ => False) (T := fun x => x ∈ ([] : List Stp).map Stp.e ∨ some e = some x) n he (fun b _ hb => by
        rcases hb with hb | hb
        · simp at hb
        · exact .inr (Option.some.inj hb).symm)
      have z : litSum (mixF ds) (fun _ => False) n = 0 := sumN_zero n fun k _ => if_neg (fun z => z)
      show _ + 0 + 0 ≤ M e 0
      rw [h.mzero e he]
      omega
  intro k
  induction k with
  | zero =>
    intro m o hk hn ho
    have : m = 0 := by omega
    subst this
    exact ⟨.nil fun k hk => absurd hk (Nat.not_lt_zero k), stop o ho⟩
  | succ k ih =>
    intro m o hk hn ho
    cases m with
    | zero => exact ⟨.nil fun k hk => absurd hk (Nat.not_lt_zero k), stop o ho⟩
    | succ m =>
      -- the mixing that is still paid for
      have hp : ∀ e, paid ds F M (m + 1) o = some e → e < n ∧ M e (m + 1) ≠ F (m + 1) + mixF ds e := fun e he => by
        unfold paid at he
        cases o with
        | none => cases he
        | some x =>
          dsimp only at he
          split at he
          · cases he
          · rename_i hne
            have he := Option.some.inj he
            subst he
            exact ⟨ho _ rfl, hne⟩
      suffices hs : WOk ds g n (m + 1) (walkD ds g lights F M n (k + 1) (m + 1) o) ∧ owed ds g lights n (paid ds F M (m + 1) o) (walkD ds g lights F M n (k + 1) (m + 1) o) ≤ rungs F M (paid ds F M (m + 1) o) (m + 1) by
        refine ⟨hs.1, ?_⟩
        have h2 := hs.2
        cases o with
        | none => exact h2
        | some e =>
          by_cases z : M e (m + 1) = F (m + 1) + mixF ds e
          · rw [show paid ds F M (m + 1) (some e) = none from if_pos z] at h2
            have he := ho e rfl
            generalize walkD ds g lights F M n (k + 1) (m + 1) (some e) = W at h2 ⊢
            have h2 : owed ds g lights n none W ≤ F (m + 1) := h2
            show owed ds g lights n (some e) W ≤ M e (m + 1)
            unfold owed at h2 ⊢
            have := litSum_or hm (S := fun x => x ∈ W.map Stp.e ∨ (none : Option Nat) = some x) (T := fun x => x ∈ W.map Stp.e ∨ some e = some x) n he (fun b _ hb => by
              rcases hb with hb | hb
              · exact .inl (.inl hb)
              · exact .inr (Option.some.inj hb).symm)
            omega
          · rw [show paid ds F M (m + 1) (some e) = some e from if_neg z] at h2
            exact h2
      unfold walkD
      generalize paid ds F M (m + 1) o = o1 at hp
      by_cases hr : wantN g m = 0 ∧ rungs F M o1 (m + 1) = rungs F M o1 m
      · rw [if_pos hr]
        obtain ⟨i1, i2⟩ := ih m o1 (by omega) (by omega) (fun e he => (hp e he).1)
        refine ⟨i1.more (by omega) (fun j h1 h2 => ?_), by rw [hr.2]; exact i2⟩
        rw [show j = m by omega]
        exact hr.1
      · rw [if_neg hr]
        have hne := picks_ex h (by omega) hm hp hr
        have L := h.lad hm
        obtain ⟨⟨e, b, f⟩, l, epk⟩ := List.exists_cons_of_ne_nil hne
        have hx : (e, b, f) ∈ picks ds g lights F M n o1 (m + 1) := by rw [epk]; exact List.mem_cons_self
        rw [epk]
        dsimp only
        -- the stretch, and the rung that it comes to
        have key : e < n ∧ e ≤ b ∧ b < n ∧ f < m + 1 ∧ (∃ s, segP (wantD ds g e b) f (m + 1 - f) = some s ∧ M e (m + 1) = M e f + lights b + s) ∧ rungs F M o1 (m + 1) = M e (m + 1) ∧ (∀ x, o1 = some x → x = e) := by
          cases o1 with
          | none =>
            obtain ⟨a1, a2, a3⟩ := lastF_mem (show (e, b, f) ∈ lastF ds g lights F M n (m + 1) from hx)
            obtain ⟨b1, b2, b3, b4, b5⟩ := lastD_mem a3
            exact ⟨a1, b2, b3 a1, b4, b5, a2.symm, fun x z => nomatch z⟩
          | some y =>
            obtain ⟨b1, b2, b3, b4, b5⟩ := lastD_mem (show (e, b, f) ∈ lastD ds g lights M n y (m + 1) from hx)
            have b1 : e = y := b1
            subst b1
            exact ⟨(hp e rfl).1, b2, b3 (hp e rfl).1, b4, b5, rfl, fun x z => (Option.some.inj z).symm⟩
        obtain ⟨c1, c2, c3, c4, ⟨s, c5, c6⟩, c7, c8⟩ := key
        obtain ⟨i1, i2⟩ := ih f (some e) (by omega) (by omega) (fun x z => by rw [← Option.some.inj z]; exact c1)
        refine ⟨.cons (s := ⟨e, b, f, m + 1⟩) (Nat.le_refl _) (fun j h1 h2 => absurd h2 (by have h1 : m + 1 ≤ j := h1; omega)) c4 c2 c3 ⟨s, c5⟩ i1, ?_⟩
        rw [c7, c6]
        have i2 : owed ds g lights n (some e) (walkD ds g lights F M n k f (some e)) ≤ M e f := i2
        generalize walkD ds g lights F M n k f (some e) = W at i2 ⊢
        unfold owed at i2 ⊢
        have u1 := litSum_sub hm (S := fun x => x ∈ ((⟨e, b, f, m + 1⟩ : Stp) :: W).map Stp.e ∨ o1 = some x) (T := fun x => x ∈ W.map Stp.e ∨ some e = some x) n (fun x _ hx => by
          rcases hx with hx | hx
          · rcases List.mem_cons.mp hx with hx | hx
            · exact .inr (by rw [hx])
            · exact .inl hx
          · exact .inr (by rw [c8 x hx]))
        have u2 := litSum_or hl (S := fun x => x ∈ W.map Stp.b) (T := fun x => x ∈ ((⟨e, b, f, m + 1⟩ : Stp) :: W).map Stp.b) n c3 (fun x _ hx => by
          rcases List.mem_cons.mp hx with hx | hx
          · exact .inr hx
          · exact .inl hx)
        have u3 : sumR (priceD ds g) (planW g ((⟨e, b, f, m + 1⟩ : Stp) :: W)) = sumR (priceD ds g) (rowsS g ⟨e, b, f, m + 1⟩) + sumR (priceD ds g) (planW g W) := sumR_app _ _ _
        have u4 := (seg_rows c5).1
        rw [show f + (m + 1 - f) = m + 1 by omega] at u4
        have u5 : sumR (priceD ds g) (rowsS g ⟨e, b, f, m + 1⟩) = s := u4.symm
        omega
/-- the plan of the walk back costs what the ladder comes to -/
theorem walk_cost {ls : List Int} (h : Bld ds g (rowF ls) n F M n) (hN : n = g.days.length) (hds : ds.length = n) (hl : ∀ b, 0 ≤ rowF ls b) (hd : ∀ d ∈ ds, 0 ≤ d.mix ∧ 0 ≤ d.dough ∧ 0 ≤ d.hold) (W : NonNegW g.days) (hlf : ∀ l, g.life = some l → 0 ≤ l) {L : List Row4} (hL : L.Perm (planW g (walkD ds g (rowF ls) F M n n n none))) : costD ds ls g n L = F n := by
  have hm : ∀ b, 0 ≤ mixF ds b := fun b => by
    unfold mixF dghAt
    rw [List.getD_eq_getElem?_getD]
    cases e : ds[b]? with
    | none => exact Int.le_refl 0
    | some d => exact (hd d (List.mem_of_getElem? e)).1
  obtain ⟨h1, h2⟩ := walk_ok h hm hl n n none (Nat.le_refl _) (Nat.le_refl _) (fun e z => nomatch z)
  generalize walkD ds g (rowF ls) F M n n n none = V at hL h1 h2
  obtain ⟨r1, r2, r3⟩ := h1.rows
  have m1 := h1.met
  have h2 : owed ds g (rowF ls) n none V ≤ F n := h2
  have e1 : costD ds ls g n L = costD ds ls g n (planW g V) := by
    unfold costD
    rw [litR_perm fun d => (hL.map _).mem_iff, litR_perm fun d => (hL.map _).mem_iff]
    congr 1
    exact sum_permI (hL.map _)
  rw [e1]
  have up : costD ds ls g n (planW g V) ≤ owed ds g (rowF ls) n none V := by
    have a1 := litSum_sub hm (S := fun d => d ∈ (planW g V).map Row4.a) (T := fun x => x ∈ V.map Stp.e ∨ (none : Option Nat) = some x) n (fun x _ hx => by
      obtain ⟨r, hr, rfl⟩ := List.mem_map.mp hx
      exact .inl (r1 r hr).2.2.2.2.2.2.1)
    have a2 := litSum_sub hl (S := fun d => d ∈ (planW g V).map Row4.b) (T := fun x => x ∈ V.map Stp.b) n (fun x _ hx => by
      obtain ⟨r, hr, rfl⟩ := List.mem_map.mp hx
      exact (r1 r hr).2.2.2.2.2.2.2)
    unfold costD owed litR
    omega
  have low := (h.lad hm).le_plan (L := planW g V) hN hds hl hd W hlf (fun r hr => by
    obtain ⟨a1, a2, a3, a4, _⟩ := r1 r hr
    exact ⟨a1, a2, a3, a4⟩) (fun r hr => by
    obtain ⟨a1, a2, a3, a4, a5, a6, _⟩ := r1 r hr
    have := wantN_nonneg W r.c
    omega) (fun k hk => by rw [m1 k, if_pos hk])
  omega
end
end Bk

namespace Bk
open PySem PySem.Spec PyProof.Rows L2
/-! ### repr of data with {} in it: the table of modules is not among what is shown -/
structure NoSys (K : PySem.W.Frag) (H : Hp) : Prop where
  k : K.lookup sysModules = none
  h : ∃ o φ, H sysModules = some (.frz o (.ext φ))
theorem NoSys.same {K : PySem.W.Frag} {H H' : Hp} (n : NoSys K H) (s : Same H H') : NoSys K H' := by
  obtain ⟨o, φ, e⟩ := n.h
  exact ⟨n.k, o, φ, s _ _ e⟩
theorem NoSys.lst {K : PySem.W.Frag} {H : Hp} {a : Addr} {xs : List V} (n : NoSys K H) (h : SqL K H a xs) : a ≠ sysModules := fun z => by
  obtain ⟨o, φ, e⟩ := n.h
  subst z
  rcases h with (h | ⟨ob, h⟩) | ⟨ob, its, m, h, _⟩
  · rw [e] at h; cases h
  · rw [e] at h; cases h
  · rw [n.k] at h; cases h
theorem NoSys.dic {K : PySem.W.Frag} {H : Hp} {a : Addr} (n : NoSys K H) (h : H a = some (.dK [])) : a ≠ sysModules := fun z => by
  obtain ⟨o, φ, e⟩ := n.h
  subst z
  rw [e] at h
  cases h
section
variable {X : Cx} {pins : List (Addr × Obj)} {σ : L2.St} {H : Hp} {s : Shared}
theorem dic_reads (I : Inv X pins σ H s) {a : Addr} (h : H a = some (.dK [])) : Reads s.heap (.ref a) (.dict []) [a] := by
  obtain ⟨_, _, vs, r, o, es, ep, e1, e2, e3, _, e4, _⟩ := I.hok a _ h
  have hv : vs = [] := by
    cases r
    rfl
  subst hv
  have he : es.toList = [] := by
    cases hh : es.toList with
    | nil => rfl
    | cons x y => rw [hh] at e4; cases e4
  have := Reads.dict (as := []) (bs := []) (kvs := []) e1 e2.1 e3 (by rw [he]; exact ReadsAll.nil) (by rw [he]; exact ReadsAll.nil)
  exact this
mutual
theorem Th.reads (I : Inv X pins σ H s) (n : NoSys X.K H) : ∀ {v : V} {d : PyData} {u : Value}, Th X.K H v d → RelV v u → ∃ as, Reads s.heap u d as ∧ sysModules ∉ as
  | _, _, _, .non, r => by cases r; exact ⟨_, Reads.none, by simp⟩
  | _, _, _, .bl b, r => by cases r; exact ⟨_, Reads.bool b, by simp⟩
  | _, _, _, .int i, r => by obtain ⟨t, rfl⟩ := r; exact ⟨_, Reads.int i t, by simp⟩
  | _, _, _, .str x, r => by obtain ⟨t, rfl⟩ := r; exact ⟨_, Reads.str x t, by simp⟩
  | _, _, _, .lst h t, r => by
    cases r
    have hne := n.lst h
    obtain ⟨its, rv, ⟨o, m, ho, hc, _, hd⟩, _⟩ := I.list h
    obtain ⟨as, hr, hn⟩ := ThAll.reads I n t rv
    exact ⟨_, Reads.list ho hc hd hr, by simp only [List.mem_cons, not_or]; exact ⟨Ne.symm hne, hn⟩⟩
  | _, _, _, .tup h t, r => by
    cases r
    obtain ⟨its, rv, ⟨o, ho, hc, m, hd⟩, _⟩ := I.tuple h
    obtain ⟨as, hr, hn⟩ := ThAll.reads I n t rv
    exact ⟨_, Reads.tuple ho hc hd hr, hn⟩
  | _, _, _, .dic h, r => by
    cases r
    exact ⟨_, dic_reads I h, by simp only [List.mem_singleton]; exact Ne.symm (n.dic h)⟩
theorem ThAll.reads (I : Inv X pins σ H s) (n : NoSys X.K H) : ∀ {vs : List V} {ds : List PyData} {us : List Value}, ThAll X.K H vs ds → Vals vs us → ∃ as, ReadsAll s.heap us ds as ∧ sysModules ∉ as
  | _, _, _, .nil, r => by cases r; exact ⟨_, ReadsAll.nil, by simp⟩
  | _, _, _, .cons h t, r => by
    cases r with
    | cons r1 r2 =>
      obtain ⟨as, q1, n1⟩ := Th.reads I n h r1
      obtain ⟨bs, q2, n2⟩ := ThAll.reads I n t r2
      exact ⟨_, ReadsAll.cons q1 q2, by rw [List.mem_append]; exact fun z => z.elim n1 n2⟩
end
end
/-- what may be shown: ints of few figures, not too deep, not too long -/
structure ShowsM (d : PyData) : Prop where
  able : d.showable = true
  deep : d.depth ≤ 60
  short : d.shown.length ≤ sizeLine
def rReprM (K : PySem.W.Frag) : List V → Hp → VK → Prop := fun xs H Q => ∃ x d, xs = [x] ∧ Th K H x d ∧ NoSys K H ∧ ShowsM d ∧ Q (.str d.shown) H
theorem rReprM_r {K : PySem.W.Frag} {x : V} {H : Hp} {Q : VK} : rReprM K [x] H Q = ∃ d, Th K H x d ∧ NoSys K H ∧ ShowsM d ∧ Q (.str d.shown) H := propext ⟨fun ⟨y, d, e, h⟩ => by cases e; exact ⟨d, h⟩, fun ⟨d, h⟩ => ⟨x, d, rfl, h⟩⟩
end Bk

namespace Bk
open PySem PySem.Spec PyProof.Rows L2
/-! ### a thing that may be a dict of one entry, {0: data} -/
inductive ThX (K : PySem.W.Frag) (H : Hp) : V → PyData → Prop
  | th {v : V} {d : PyData} : Th K H v d → ThX K H v d
  | one {a : Addr} {p : V} {e : PyData} : H a = some (.dK [(Sum.inl 0, p)]) → Th K H p e → ThX K H (.ref a) (.dict [(.int 0, e)])
theorem ThX.same {K : PySem.W.Frag} {H H' : Hp} {v : V} {d : PyData} (s : Same H H') (h : ThX K H v d) : ThX K H' v d := by
  cases h with
  | th t => exact .th (t.same s)
  | one e t => exact .one (s _ _ e) (t.same s)
theorem ThX.ty {K : PySem.W.Frag} {H : Hp} {v : V} {d : PyData} (h : ThX K H v d) : TyX K H v (.type (kindD d)) := by
  cases h with
  | th t => exact t.ty
  | one e t => exact .base (.dK e)
def rIsDX (K : PySem.W.Frag) (c : Cl) : List V → Hp → VK → Prop := fun xs H Q => ∃ x d, xs = [x, .ty c.name] ∧ ThX K H x d ∧ Q (.bl (isD c d)) H
theorem call_isDX {X : Cx} (c : Cl) : CallR X (.builtin "isinstance") (rIsDX X.K c) := fun pins s σ H xs us Q I r ⟨x, d, e, h, q⟩ =>
  call_isi pins s σ H xs us Q I r ⟨x, .ty c.name, .type (kindD d), .type c.name, isD c d, e, .ty _, h.ty, isD_kit c d, q⟩
theorem rIsDX_list {K : PySem.W.Frag} {x : V} {H : Hp} {Q : VK} : rIsDX K .list [x, .ty "list"] H Q = ∃ d, ThX K H x d ∧ Q (.bl (isD .list d)) H := propext ⟨fun ⟨y, d, e, h⟩ => by cases e; exact ⟨d, h⟩, fun ⟨d, h⟩ => ⟨x, d, rfl, h⟩⟩
section
variable {X : Cx} {pins : List (Addr × Obj)} {σ : L2.St} {H : Hp} {s : Shared}
theorem ThX.reads (I : Inv X pins σ H s) (n : NoSys X.K H) {v : V} {d : PyData} {u : Value} (h : ThX X.K H v d) (r : RelV v u) : ∃ as, Reads s.heap u d as ∧ sysModules ∉ as := by
  cases h with
  | th t => exact t.reads I n r
  | @one a p e h t =>
    cases r
    obtain ⟨_, hs, vs, kv, o, es, ep, e1, e2, e3, _, e4, _⟩ := I.hok a _ h
    obtain ⟨kv0, rfl, ke, kr⟩ : ∃ kv0 : Key × Value, vs = [kv0] ∧ Sum.inl 0 = kv0.1 ∧ RelV p kv0.2 := by
      cases kv with
      | cons k1 kt =>
        cases kt
        exact ⟨_, rfl, k1.1, k1.2⟩
    · skip
      obtain ⟨as, hr, hn⟩ := t.reads I n kr
      have e5 : ∃ en, es.toList = [en] ∧ (mixKind X.prog X.w).is kv0.1 en.key = true ∧ en.val = kv0.2 := by
        cases hh : es.toList with
        | nil => rw [hh] at e4; cases e4
        | cons x r =>
          rw [hh] at e4
          obtain ⟨rfl, g1, g2⟩ : r = [] ∧ (mixKind X.prog X.w).is kv0.1 x.key = true ∧ x.val = kv0.2 := by
            generalize ho : [kv0] = kvs at e4
            cases e4 with
            | cons g1 g2 g3 =>
              cases ho
              cases g3
              exact ⟨rfl, g1, g2⟩
          exact ⟨x, rfl, g1, g2⟩
      obtain ⟨en, he, hk, hv⟩ := e5
      rw [← ke] at hk
      have hk : keyIs (Sum.inl 0) en.key = true := hk
      rcases keyIs_shape hk with ⟨i, t1, q1, q2⟩ | ⟨x, t1, q1, _⟩
      · cases q1
        have rd := Reads.dict (as := []) (bs := as) (kvs := [(PyData.int 0, e)]) e1 e2.1 e3 (by rw [he]; simp only [List.map]; rw [q2]; exact ReadsAll.cons (as := []) (Reads.int 0 t1) ReadsAll.nil) (by rw [he]; simp only [List.map]; rw [hv, show as = as ++ [] by simp]; exact ReadsAll.cons hr ReadsAll.nil)
        refine ⟨_, rd, ?_⟩
        simp only [List.cons_append, List.nil_append, List.mem_cons, not_or]
        exact ⟨fun z => by rw [← z] at hs; simp at hs, hn⟩
      · cases q1
end
/-- a list whose last item may be such a dict -/
inductive ThLX (K : PySem.W.Frag) (H : Hp) : V → PyData → Prop
  | mk {a : Addr} {xs : List V} {ds : List PyData} {b : V} {d : PyData} : SqL K H a (xs ++ [b]) → ThAll K H xs ds → ThX K H b d → ThLX K H (.ref a) (.list (ds ++ [d]))
def rReprX (K : PySem.W.Frag) : List V → Hp → VK → Prop := fun xs H Q => ∃ x d, xs = [x] ∧ ThLX K H x d ∧ NoSys K H ∧ ShowsM d ∧ Q (.str d.shown) H
end Bk

namespace Bk
open PySem PySem.Spec PyProof.Rows L2
/-! ### a drawn plan with doughs: its entries, while it is made -/
def ind3 (k : Nat) (key : K3) : Int := if key.2.2 = k then 1 else 0
structure BatJ (g : Good) (n i : Nat) (c : Int) (j : Nat) (es : E3) : Prop where
  nd : (es.map (·.1)).Nodup
  keys : ∀ k ∈ es.map (·.1), KeyD g n k
  pos : ∀ e ∈ es, 0 < e.2
  met : ∀ k, sum3 (ind3 k) es = if k < i then wantN g k else if k = i then c else 0
  tot : sum3 (fun _ => 1) es ≤ (i : Int) * 1000000000 + c
  len : es.length ≤ 2 * i + j
theorem BatJ.nil (g : Good) (n : Nat) : BatJ g n 0 0 0 [] := by
  refine ⟨List.nodup_nil, (fun k h => by cases h), (fun e h => by cases h), fun k => ?_, by show (0 : Int) ≤ _; omega, by simp⟩
  show (0 : Int) = _
  split
  · omega
  · split <;> rfl
theorem BatJ.add {g : Good} {n i j : Nat} {c m : Int} {es : E3} {key : K3} (h : BatJ g n i c j es) (hk : KeyD g n key) (hi : key.2.2 = i) (hm : 0 < m) : BatJ g n i (c + m) (j + 1) (add3 es key m) := by
  refine ⟨add3_nodup h.nd, fun k hk2 => ?_, fun e he => ?_, fun k => ?_, ?_, ?_⟩
  · rcases add3_key.mp hk2 with z | z
    · exact h.keys k z
    · rw [z]
      exact hk
  · obtain ⟨k, v⟩ := e
    show 0 < v
    rcases add3_mem he with he | ⟨_, rfl⟩
    · exact h.pos _ he
    · cases hl : look3 es key with
      | none => show 0 < 0 + m; omega
      | some u =>
        have := h.pos _ (look3_val hl)
        dsimp only at this
        show 0 < u + m
        omega
  · rw [add3_sum _ h.nd, h.met k]
    unfold ind3
    rw [hi]
    by_cases h1 : k < i
    · rw [if_pos h1, if_pos h1, if_neg (by omega)]
      omega
    · rw [if_neg h1, if_neg h1]
      by_cases h2 : k = i
      · rw [if_pos h2, if_pos h2, if_pos h2.symm]
        omega
      · rw [if_neg h2, if_neg h2, if_neg (fun z => h2 z.symm)]
        omega
  · rw [add3_sum _ h.nd]
    have := h.tot
    omega
  · have := add3_len es key m
    have := h.len
    omega
theorem BatJ.skip {g : Good} {n i j : Nat} {c : Int} {es : E3} (h : BatJ g n i c j es) : BatJ g n i c (j + 1) es := ⟨h.nd, h.keys, h.pos, h.met, h.tot, by have := h.len; omega⟩
theorem BatJ.next {g : Good} {n i : Nat} {es : E3} (h : BatJ g n i (wantN g i) 2 es) (hw : wantN g i ≤ 1000000000) : BatJ g n (i + 1) 0 0 es := by
  refine ⟨h.nd, h.keys, h.pos, fun k => ?_, ?_, by have := h.len; omega⟩
  · rw [h.met k]
    by_cases h1 : k < i
    · rw [if_pos h1, if_pos (by omega)]
    · rw [if_neg h1]
      by_cases h2 : k = i
      · rw [if_pos h2, if_pos (by omega), h2]
      · rw [if_neg h2, if_neg (by omega)]
        split <;> rfl
  · have := h.tot
    omega
/-- a drawn plan with doughs -/
structure Batch (g : Good) (n : Nat) (es : E3) : Prop where
  nd : (es.map (·.1)).Nodup
  keys : ∀ k ∈ es.map (·.1), KeyD g n k
  pos : ∀ e ∈ es, 0 < e.2
  met : ∀ k, k < n → sum3 (ind3 k) es = wantN g k
  tot : sum3 (fun _ => 1) es ≤ (n : Int) * 1000000000
  len : es.length ≤ 2 * n
theorem BatJ.done {g : Good} {n : Nat} {es fs : E3} (h : BatJ g n n 0 0 es) (p : fs.Perm es) : Batch g n fs := by
  refine ⟨(p.map _).nodup_iff.mpr h.nd, fun k hk => h.keys k ((p.map _).mem_iff.mp hk), fun e he => h.pos e (p.mem_iff.mp he), fun k hk => ?_, ?_, by rw [p.length_eq]; have := h.len; omega⟩
  · rw [sum3_perm p, h.met k, if_pos hk]
  · rw [sum3_perm p]
    have := h.tot
    omega
theorem Batch.plan {g : Good} {n : Nat} {es : E3} (h : Batch g n es) (hn : n ≤ 30) : PlanF g n (es.map rowE) := by
  refine ⟨fun r hr => ?_, fun r hr => ?_, ?_, ?_⟩
  · obtain ⟨e, he, rfl⟩ := List.mem_map.mp hr
    exact h.keys _ (List.mem_map.mpr ⟨e, he, rfl⟩)
  · obtain ⟨e, he, rfl⟩ := List.mem_map.mp hr
    exact h.pos e he
  · rw [← sum3_one]
    have := h.tot
    omega
  · rw [List.length_map]
    have := h.len
    omega
theorem op_catTK {X : Cx} {K : PySem.W.Frag} (hK : X.K = K) : OpR X (binaryOp .Add) (rCatT K) := by
  subst hK
  exact op_catT
/-- from sorted keys back to entries -/
theorem keys_back {es : E3} {M : List (Addr × List Int)} (h : (M.map (·.2)).Perm (es.map fun e => keyI3 e.1)) : ∃ fs : E3, fs.Perm es ∧ M.map (·.2) = fs.map (fun e => keyI3 e.1) := perm_of_map h rfl
theorem mk3_keys (es : E3) : (mk3 es).map (·.1) = (es.map fun e => keyI3 e.1).map fun k => k.map Sum.inl := by
  unfold mk3
  rw [List.map_map, List.map_map]
  rfl
end Bk

namespace Bk
open PySem PySem.Spec PyProof.Rows L2
/-! ### the days on which loaves for a day can be baked -/
def thereG (g : Good) (k n : Nat) : List Int := ((List.range n).filter fun j => (loafP g j k).isSome).map fun j => ((j : Nat) : Int)
/-- a heap without one place -/
def without (D : Addr) (H : Hp) : Hp := fun b => if b = D then none else H b
end Bk

namespace Bk
open PySem PySem.Spec PyProof.Rows L2
/-! ### a bakery whose lists are the law's own, to be changed in place -/
/-- the tuples alone -/
def tupsOf (H : Hp) : Hp := fun b => match H b with
  | some (.tup xs) => some (.tup xs)
  | _ => none
theorem tupsOf_at {H : Hp} {b : Addr} {xs : List V} (h : H b = some (.tup xs)) : tupsOf H b = some (.tup xs) := by
  unfold tupsOf
  rw [h]
theorem tupsOf_is {H : Hp} {b : Addr} {o : HO} (h : tupsOf H b = some o) : H b = some o ∧ ∃ xs, o = .tup xs := by
  unfold tupsOf at h
  split at h
  · rename_i xs e
    cases h
    exact ⟨e, xs, rfl⟩
  · cases h
theorem tupsOf_same (H : Hp) : Same (tupsOf H) H := fun b o e => (tupsOf_is e).1
theorem tupsOf_mono {H H' : Hp} (s : Same H H') : Same (tupsOf H) (tupsOf H') := fun b o e => by
  obtain ⟨e1, xs, rfl⟩ := tupsOf_is e
  exact tupsOf_at (s _ _ e1)
/-- a change of what is no tuple leaves them -/
theorem tupsOf_upd {H : Hp} {a : Addr} {ys : List V} {o : HO} (h : H a = some (.lst ys)) : Same (tupsOf H) (tupsOf (upd H a o)) := fun b p e => by
  obtain ⟨e1, xs, rfl⟩ := tupsOf_is e
  refine tupsOf_at ?_
  rw [upd_ne]
  · exact e1
  · intro z
    rw [z, h] at e1
    cases e1
/-- a good that is made of an own tuple, an own list of days, and tuples -/
structure OwnG (H : Hp) (p : Addr × Addr) (g : Good) : Prop where
  tup : H p.1 = some (.tup [.ref p.2, optV g.life])
  lst : ∃ xs, H p.2 = some (.lst xs) ∧ TkAll (tupsOf H) xs (g.days.map dayD)
theorem OwnG.tk {H : Hp} {p : Addr × Addr} {g : Good} (h : OwnG H p g) : Tk H (.ref p.1) (goodD g) := by
  obtain ⟨xs, h1, h2⟩ := h.lst
  exact .tup h.tup (.cons (.lst h1 (h2.same (tupsOf_same _))) (.cons (Tk.optV _) .nil))
theorem OwnG.same {H H' : Hp} {p : Addr × Addr} {g : Good} (s : Same H H') (h : OwnG H p g) : OwnG H' p g := by
  obtain ⟨xs, h1, h2⟩ := h.lst
  exact ⟨s _ _ h.tup, xs, s _ _ h1, h2.same (tupsOf_mono s)⟩
inductive OwnGs (H : Hp) : List (Addr × Addr) → List Good → Prop
  | nil : OwnGs H [] []
  | cons {p : Addr × Addr} {g : Good} {ps : List (Addr × Addr)} {gs : List Good} : OwnG H p g → OwnGs H ps gs → OwnGs H (p :: ps) (g :: gs)
theorem OwnGs.same {H H' : Hp} (s : Same H H') : ∀ {ps : List (Addr × Addr)} {gs : List Good}, OwnGs H ps gs → OwnGs H' ps gs
  | _, _, .nil => .nil
  | _, _, .cons h t => .cons (h.same s) (OwnGs.same s t)
theorem OwnGs.tk {H : Hp} : ∀ {ps : List (Addr × Addr)} {gs : List Good}, OwnGs H ps gs → TkAll H (ps.map fun p => V.ref p.1) (gs.map goodD)
  | _, _, .nil => .nil
  | _, _, .cons h t => .cons h.tk (OwnGs.tk t)
theorem OwnGs.length {H : Hp} : ∀ {ps : List (Addr × Addr)} {gs : List Good}, OwnGs H ps gs → ps.length = gs.length
  | _, _, .nil => rfl
  | _, _, .cons _ t => by rw [List.length_cons, List.length_cons, OwnGs.length t]
theorem OwnGs.get {H : Hp} : ∀ {ps : List (Addr × Addr)} {gs : List Good} {i : Nat} {g : Good}, OwnGs H ps gs → gs[i]? = some g → ∃ p, ps[i]? = some p ∧ OwnG H p g
  | _, _, _, _, .nil, e => by simp at e
  | _, _, 0, _, .cons h _, e => by
    rw [List.getElem?_cons_zero] at e
    cases e
    exact ⟨_, List.getElem?_cons_zero .., h⟩
  | _, _, i + 1, _, .cons _ t, e => by
    rw [List.getElem?_cons_succ] at e
    obtain ⟨p, h1, h2⟩ := OwnGs.get t e
    exact ⟨p, by rw [List.getElem?_cons_succ]; exact h1, h2⟩
/-- lights, and one or two goods, whose lists are apart -/
structure OwnB (H : Hp) (L G : Addr) (ps : List (Addr × Addr)) (ls : List Int) (gs : List Good) : Prop where
  lights : H L = some (.lst (ls.map V.int))
  list : H G = some (.lst (ps.map fun p => V.ref p.1))
  goods : OwnGs H ps gs
  apart : (ps.map (·.2)).Nodup
theorem OwnB.same {H H' : Hp} {L G : Addr} {ps : List (Addr × Addr)} {ls : List Int} {gs : List Good} (s : Same H H') (h : OwnB H L G ps ls gs) : OwnB H' L G ps ls gs :=
  ⟨s _ _ h.lights, s _ _ h.list, h.goods.same s, h.apart⟩
theorem OwnB.bak {K : PySem.W.Frag} {H : Hp} {L G t : Addr} {ps : List (Addr × Addr)} {ls : List Int} {gs : List Good} {b : Option Int} (h : OwnB H L G ps ls gs) (e : H t = some (.tup [.ref L, optV b, .ref G])) : Th K H (.ref t) (bakD ⟨ls, b, gs⟩) :=
  (Tk.tup e (.cons (.lst h.lights (TkAll.ints ls)) (.cons (Tk.optV b) (.cons (.lst h.list h.goods.tk) .nil)))).th
def livesG : List (Option Int) := [none, none, some 0, some 1, some 2, some 3, some 4, some 5, some 7, some 11, some 23, some 40]
/-- what all goods keep -/
def GoodsOk (n : Nat) (gs : List Good) : Prop := ∀ g ∈ gs, g.days.length = n ∧ lifeB (optD g.life) = true ∧ ∀ d ∈ g.days, dayB (dayD d) = true
end Bk

namespace Bk
open PySem PySem.Spec PyProof.Rows L2
/-! ### a drawn plan of one or two goods: its entries, while it is made -/
def wantG (gs : List Good) (a k : Nat) : Int := match gs[a]? with
  | some g => wantN g k
  | none => 0
def indL (a k : Nat) (key : K3) : Int := if key.2.1 = a ∧ key.2.2 = k then 1 else 0
structure KeyL (gs : List Good) (n : Nat) (k : K3) : Prop where
  a : k.1 < n
  c : k.2.2 < n
  p : ∃ g, gs[k.2.1]? = some g ∧ ∃ p, loafP g k.1 k.2.2 = some p
structure LotJ (gs : List Good) (n a i : Nat) (c : Int) (j : Nat) (es : E3) : Prop where
  nd : (es.map (·.1)).Nodup
  keys : ∀ k ∈ es.map (·.1), KeyL gs n k
  pos : ∀ e ∈ es, 0 < e.2
  met : ∀ b k, sum3 (indL b k) es = if b < a then wantG gs b k else if b = a then (if k < i then wantG gs a k else if k = i then c else 0) else 0
  tot : sum3 (fun _ => 1) es ≤ ((a * n + i : Nat) : Int) * 1000000000 + c
  len : es.length ≤ 2 * (a * n + i) + j
theorem LotJ.nil (gs : List Good) (n : Nat) : LotJ gs n 0 0 0 0 [] := by
  refine ⟨List.nodup_nil, (fun k h => by cases h), (fun e h => by cases h), fun b k => ?_, by show (0 : Int) ≤ _; omega, by simp⟩
  show (0 : Int) = _
  split
  · omega
  · split
    · split
      · omega
      · split <;> rfl
    · rfl
theorem LotJ.add {gs : List Good} {n a i j : Nat} {c m : Int} {es : E3} {key : K3} (h : LotJ gs n a i c j es) (hk : KeyL gs n key) (ha : key.2.1 = a) (hi : key.2.2 = i) (hm : 0 < m) : LotJ gs n a i (c + m) (j + 1) (add3 es key m) := by
  refine ⟨add3_nodup h.nd, fun k hk2 => ?_, fun e he => ?_, fun b k => ?_, ?_, ?_⟩
  · rcases add3_key.mp hk2 with z | z
    · exact h.keys k z
    · rw [z]
      exact hk
  · obtain ⟨k, v⟩ := e
    show 0 < v
    rcases add3_mem he with he | ⟨_, rfl⟩
    · exact h.pos _ he
    · cases hl : look3 es key with
      | none => show 0 < 0 + m; omega
      | some u =>
        have := h.pos _ (look3_val hl)
        dsimp only at this
        show 0 < u + m
        omega
  · rw [add3_sum _ h.nd, h.met b k]
    unfold indL
    rw [ha, hi]
    by_cases h1 : b < a
    · rw [if_pos h1, if_pos h1, if_neg (by omega)]
      omega
    · rw [if_neg h1, if_neg h1]
      by_cases h2 : b = a
      · rw [if_pos h2, if_pos h2]
        by_cases h3 : k < i
        · rw [if_pos h3, if_pos h3, if_neg (by omega)]
          omega
        · rw [if_neg h3, if_neg h3]
          by_cases h4 : k = i
          · rw [if_pos h4, if_pos h4, if_pos ⟨h2.symm, h4.symm⟩]
            omega
          · rw [if_neg h4, if_neg h4, if_neg (by omega)]
            omega
      · rw [if_neg h2, if_neg h2, if_neg (by omega)]
        omega
  · rw [add3_sum _ h.nd]
    have := h.tot
    omega
  · have := add3_len es key m
    have := h.len
    omega
theorem LotJ.skip {gs : List Good} {n a i j : Nat} {c : Int} {es : E3} (h : LotJ gs n a i c j es) : LotJ gs n a i c (j + 1) es := ⟨h.nd, h.keys, h.pos, h.met, h.tot, by have := h.len; omega⟩
theorem LotJ.next {gs : List Good} {n a i : Nat} {es : E3} (h : LotJ gs n a i (wantG gs a i) 2 es) (hw : wantG gs a i ≤ 1000000000) : LotJ gs n a (i + 1) 0 0 es := by
  refine ⟨h.nd, h.keys, h.pos, fun b k => ?_, ?_, by have := h.len; omega⟩
  · rw [h.met b k]
    by_cases h1 : b < a
    · rw [if_pos h1, if_pos h1]
    · rw [if_neg h1, if_neg h1]
      by_cases h2 : b = a
      · rw [if_pos h2, if_pos h2]
        by_cases h3 : k < i
        · rw [if_pos h3, if_pos (by omega)]
        · rw [if_neg h3]
          by_cases h4 : k = i
          · rw [if_pos h4, if_pos (by omega), h4]
          · rw [if_neg h4, if_neg (by omega)]
            split <;> rfl
      · rw [if_neg h2, if_neg h2]
  · have := h.tot
    have e : ((a * n + (i + 1) : Nat) : Int) = ((a * n + i : Nat) : Int) + 1 := by omega
    rw [e]
    generalize ((a * n + i : Nat) : Int) = z at this ⊢
    omega
theorem LotJ.good {gs : List Good} {n a : Nat} {es : E3} (h : LotJ gs n a n 0 0 es) (hn : ∀ k, n ≤ k → wantG gs a k = 0) : LotJ gs n (a + 1) 0 0 0 es := by
  refine ⟨h.nd, h.keys, h.pos, fun b k => ?_, ?_, ?_⟩
  · rw [h.met b k]
    by_cases h1 : b < a
    · rw [if_pos h1, if_pos (by omega)]
    · rw [if_neg h1]
      by_cases h2 : b = a
      · subst h2
        rw [if_pos rfl, if_pos (show b < b + 1 by omega)]
        by_cases h3 : k < n
        · rw [if_pos h3]
        · rw [if_neg h3, hn k (by omega)]
          split <;> rfl
      · rw [if_neg h2, if_neg (by omega)]
        split
        · split
          · omega
          · split <;> rfl
        · rfl
  · have := h.tot
    rw [Nat.add_mul, Nat.one_mul, Nat.add_zero]
    exact this
  · have := h.len
    rw [Nat.add_mul, Nat.one_mul, Nat.add_zero]
    omega
/-- a drawn plan of one or two goods -/
structure Lots (gs : List Good) (n : Nat) (es : E3) : Prop where
  nd : (es.map (·.1)).Nodup
  keys : ∀ k ∈ es.map (·.1), KeyL gs n k
  pos : ∀ e ∈ es, 0 < e.2
  met : ∀ b k, sum3 (indL b k) es = wantG gs b k
  tot : sum3 (fun _ => 1) es ≤ ((gs.length * n : Nat) : Int) * 1000000000
  len : es.length ≤ 2 * (gs.length * n)
theorem LotJ.done {gs : List Good} {n : Nat} {es fs : E3} (h : LotJ gs n gs.length 0 0 0 es) (p : fs.Perm es) : Lots gs n fs := by
  refine ⟨(p.map _).nodup_iff.mpr h.nd, fun k hk => h.keys k ((p.map _).mem_iff.mp hk), fun e he => h.pos e (p.mem_iff.mp he), fun b k => ?_, ?_, by rw [p.length_eq]; have := h.len; omega⟩
  · rw [sum3_perm p, h.met b k]
    by_cases h1 : b < gs.length
    · rw [if_pos h1]
    · rw [if_neg h1]
      have e : wantG gs b k = 0 := by
        unfold wantG
        rw [List.getElem?_eq_none (by omega)]
      rw [e]
      split
      · split
        · omega
        · split <;> rfl
      · rfl
  · rw [sum3_perm p]
    have := h.tot
    omega
end Bk

namespace Bk
open PySem PySem.Spec PyProof.Rows L2
def dayAt (h : Row4 → Nat) (zs : List (Addr × Row4)) (i j : Nat) : Bool := match zs[j]? with | some z => decide (h z.2 = i) | none => false
/-- the lit days of a plan, below n -/
def litDs (L : List Row4) (n : Nat) : List Int := ((List.range n).filter fun d => decide (d ∈ L.map Row4.a)).map fun d => ((d : Nat) : Int)
theorem keepsL_back {ds : List Day} {j k : Nat} (h : k ≤ j) : keepsL ds j k = 0 := by
  unfold keepsL
  rw [show k - j = 0 by omega]
  rfl
/-- how many loaves are baked on a day -/
def loadR (L : List Row4) (d : Nat) : Int := (L.map fun r => if r.a = d then r.m else 0).sum
theorem loadR_step {zs : List (Addr × Row4)} {i : Nat} {z : Addr × Row4} (h : zs[i]? = some z) (d : Nat) : loadR ((zs.take (i + 1)).map (·.2)) d = loadR ((zs.take i).map (·.2)) d + if z.2.a = d then z.2.m else 0 := by
  unfold loadR
  rw [List.take_add_one, h]
  simp
end Bk

namespace Bk
open PySem PySem.Spec PyProof.Rows L2
theorem ThAll.set {K : PySem.W.Frag} {H : Hp} {x : V} {e : PyData} : ∀ {vs : List V} {ds : List PyData} {i : Nat}, ThAll K H vs ds → Th K H x e → ThAll K H (vs.set i x) (ds.set i e)
  | _, _, _, .nil, _ => .nil
  | _, _, 0, .cons _ t, h => .cons h t
  | _, _, i + 1, .cons h t, h2 => .cons h (ThAll.set t h2)
/-! ### a want less, a price put otherwise -/
def lessD (m : Int) (d : Day) : Day := ⟨d.want - m, d.loaf, d.keep, d.fine⟩
def lessG (g : Good) (k : Nat) (m : Int) : Good := match g.days[k]? with
  | some d => ⟨g.days.set k (lessD m d), g.life⟩
  | none => g
def lessB (b : Bak) (r : Row4) : Bak := match b.goods[r.b]? with
  | some g => ⟨b.lights, b.bound, b.goods.set r.b (lessG g r.c r.m)⟩
  | none => b
/-- a loaf has a price by lives and fines alone -/
theorem loafP_there {g g' : Good} (hl : g'.life = g.life) (hf : g'.days.map Day.fine = g.days.map Day.fine) {j k : Nat} (h : ∃ p, loafP g j k = some p) : ∃ p, loafP g' j k = some p := by
  obtain ⟨p, h⟩ := h
  have hlen : g'.days.length = g.days.length := by
    have := congrArg List.length hf
    rw [List.length_map, List.length_map] at this
    exact this
  have hfi : ∀ a b, finesL g'.days a b = finesL g.days a b := fun a b => by
    unfold finesL
    rw [List.map_take, List.map_drop, List.map_take, List.map_drop, hf]
  unfold loafP at h ⊢
  cases hd : g.days[j]? with
  | none => rw [hd] at h; cases h
  | some d =>
    rw [hd] at h
    have hj : j < g'.days.length := by
      rw [hlen]
      exact (List.getElem?_eq_some_iff.mp hd).1
    rw [List.getElem?_eq_getElem hj]
    dsimp only at h ⊢
    rw [hl, hfi]
    by_cases hk : k < j
    · rw [if_pos hk] at h ⊢
      obtain ⟨z, hz, _⟩ := Option.map_eq_some_iff.mp h
      rw [hz]
      exact ⟨_, rfl⟩
    · rw [if_neg hk] at h ⊢
      cases hg : g.life with
      | none => exact ⟨_, rfl⟩
      | some l =>
        rw [hg] at h
        dsimp only at h ⊢
        split at h
        · cases h
        · rename_i hz
          rw [if_neg hz]
          exact ⟨_, rfl⟩
theorem FitR.turn {b c : Bak} {n : Nat} {q : Row4} (h : FitR b n q) (k : ∀ (i : Nat) (g : Good), b.goods[i]? = some g → ∃ g' : Good, c.goods[i]? = some g' ∧ g'.life = g.life ∧ g'.days.map Day.fine = g.days.map Day.fine) : FitR c n q := by
  obtain ⟨g, hg, hp⟩ := h.p
  obtain ⟨g', h1, h2, h3⟩ := k _ g hg
  exact ⟨h.a, h.c, h.m, g', h1, loafP_there h2 h3 hp⟩
end Bk

namespace Bk
open PySem PySem.Spec PyProof.Rows L2
theorem sum3_ge {f : K3 → Int} {es : E3} (h : ∀ e ∈ es, 0 ≤ e.2 * f e.1) : 0 ≤ sum3 f es := by
  induction es with
  | nil => exact Int.le_refl 0
  | cons x r ih =>
    rw [sum3_cons]
    have := h x List.mem_cons_self
    have := ih fun e he => h e (List.mem_cons_of_mem _ he)
    omega
theorem sum3_each {f : K3 → Int} {es : E3} (h : ∀ e ∈ es, 0 ≤ e.2 * f e.1) : ∀ e ∈ es, e.2 * f e.1 ≤ sum3 f es := by
  induction es with
  | nil => intro e he; cases he
  | cons x r ih =>
    intro e he
    rw [sum3_cons]
    have hr : ∀ e ∈ r, 0 ≤ e.2 * f e.1 := fun e he => h e (List.mem_cons_of_mem _ he)
    have h0 := sum3_ge hr
    have h1 := h x List.mem_cons_self
    rcases List.mem_cons.mp he with rfl | he
    · omega
    · have := ih hr e he
      omega
theorem Lots.le_tot {gs : List Good} {n : Nat} {es : E3} (h : Lots gs n es) : ∀ e ∈ es, 0 < e.2 ∧ e.2 ≤ ((gs.length * n : Nat) : Int) * 1000000000 := fun e he => by
  refine ⟨h.pos e he, ?_⟩
  have := sum3_each (f := fun _ => 1) (fun x hx => by have := h.pos x hx; omega) e he
  have := h.tot
  omega
theorem lots_bound {a n : Nat} (ha : a ≤ 2) (hn : n ≤ 40) : ((a * n : Nat) : Int) * 1000000000 ≤ 80000000000 := by
  have : a * n ≤ 2 * 40 := Nat.mul_le_mul ha hn
  omega
theorem Lots.fit {gs : List Good} {ls : List Int} {bd : Option Int} {n : Nat} {es : E3} (h : Lots gs n es) (hg : gs.length ≤ 2) (hn : n ≤ 40) : ∀ r ∈ es.map rowE, FitR ⟨ls, bd, gs⟩ n r := by
  intro r hr
  obtain ⟨e, he, rfl⟩ := List.mem_map.mp hr
  have hk := h.keys _ (List.mem_map.mpr ⟨e, he, rfl⟩)
  have h1 := h.le_tot e he
  have h2 := lots_bound hg hn
  obtain ⟨g, hg1, hp⟩ := hk.p
  exact ⟨hk.a, hk.c, ⟨by show 0 ≤ e.2; omega, by show e.2 ≤ _; omega⟩, g, hg1, hp⟩
theorem Lots.small {gs : List Good} {n : Nat} {es : E3} (h : Lots gs n es) (hg : gs.length ≤ 2) (hn : n ≤ 40) : SmallR (es.map rowE) := by
  have hl := h.len
  have : gs.length * n ≤ 2 * 40 := Nat.mul_le_mul hg hn
  refine ⟨by rw [List.length_map]; omega, fun r hr => ?_⟩
  obtain ⟨e, he, rfl⟩ := List.mem_map.mp hr
  have hk := h.keys _ (List.mem_map.mpr ⟨e, he, rfl⟩)
  have h1 := h.le_tot e he
  have h2 := lots_bound hg hn
  obtain ⟨g, hg1, hp⟩ := hk.p
  have hb : e.1.2.1 < gs.length := (List.getElem?_eq_some_iff.mp hg1).1
  have ha := hk.a
  have hc := hk.c
  refine ⟨by show e.1.1 < 1000; omega, by show e.1.2.1 < 1000; omega, by show e.1.2.2 < 1000; omega, ?_⟩
  show e.2.natAbs < 10 ^ 12
  exact Nat.lt_of_le_of_lt (show e.2.natAbs ≤ 80000000000 by omega) (by decide)
theorem TkAll.setAt {H : Hp} {x : V} {e : PyData} : ∀ {vs : List V} {ds : List PyData} {i : Nat}, TkAll H vs ds → Tk H x e → TkAll H (vs.set i x) (ds.set i e)
  | _, _, _, .nil, _ => .nil
  | _, _, 0, .cons _ t, h => .cons h t
  | _, _, i + 1, .cons h t, h2 => .cons h (TkAll.setAt t h2)
theorem newOf_is {H H' : Hp} {b : Addr} {o : HO} (h : newOf H H' b = some o) : H b = none ∧ H' b = some o := by
  unfold newOf at h
  split at h
  · rename_i e
    exact ⟨e, h⟩
  · cases h
/-- the last day's loaf put otherwise, the first light too -/
def turnD (d : Day) : Day := ⟨d.want, 1000000000 - d.loaf, d.keep, d.fine⟩
def turnG (g : Good) : Good := match g.days[g.days.length - 1]? with
  | some d => ⟨g.days.set (g.days.length - 1) (turnD d), g.life⟩
  | none => g
end Bk

namespace Bk
open PySem PySem.Spec PyProof.Rows L2
theorem OwnG.upd {H : Hp} {q : Addr × Addr} {g : Good} {A : Addr} {ys : List V} {o : HO} (h : OwnG H q g) (hA : H A = some (.lst ys)) (ne : q.2 ≠ A) : OwnG (upd H A o) q g := by
  obtain ⟨xs, h1, h2⟩ := h.lst
  refine ⟨?_, xs, by rw [upd_ne ne]; exact h1, h2.same (tupsOf_upd hA)⟩
  rw [upd_ne fun z => by have := h.tup; rw [z, hA] at this; cases this]
  exact h.tup
theorem OwnGs.upd {H : Hp} {A : Addr} {ys : List V} {o : HO} (hA : H A = some (.lst ys)) : ∀ {ps : List (Addr × Addr)} {gs : List Good}, OwnGs H ps gs → (∀ q ∈ ps, q.2 ≠ A) → OwnGs (upd H A o) ps gs
  | _, _, .nil, _ => .nil
  | _, _, .cons h t, ne => .cons (h.upd hA (ne _ List.mem_cons_self)) (OwnGs.upd hA t fun q hq => ne q (List.mem_cons_of_mem _ hq))
theorem OwnGs.mem {H : Hp} : ∀ {ps : List (Addr × Addr)} {gs : List Good}, OwnGs H ps gs → ∀ q ∈ ps, ∃ g ∈ gs, OwnG H q g
  | _, _, .nil, q, hq => by cases hq
  | _, _, .cons h t, q, hq => by
    rcases List.mem_cons.mp hq with rfl | hq
    · exact ⟨_, List.mem_cons_self, h⟩
    · obtain ⟨g, hg, hq2⟩ := OwnGs.mem t q hq
      exact ⟨g, List.mem_cons_of_mem _ hg, hq2⟩
/-- a list of days holds no numbers, and no goods -/
theorem OwnG.head {H : Hp} {q : Addr × Addr} {g : Good} (h : OwnG H q g) (hn : 1 ≤ g.days.length) : ∃ (t : Addr) (d : Day) (xs : List V), H q.2 = some (.lst (.ref t :: xs)) ∧ H t = some (.tup [.int d.want, .int d.loaf, .int d.keep, optV d.fine]) := by
  obtain ⟨xs, h1, h2⟩ := h.lst
  cases hd : g.days with
  | nil => rw [hd] at hn; simp at hn
  | cons d r =>
    rw [hd] at h2
    have h2 : TkAll (tupsOf H) xs (dayD d :: r.map dayD) := h2
    cases h2 with
    | cons h3 h4 =>
      have h3 : Tk (tupsOf H) _ (.tuple [.int d.want, .int d.loaf, .int d.keep, optD d.fine]) := h3
      cases h3 with
      | tup ht hta =>
        cases hta with
        | cons t1 hta => cases hta with
        | cons t2 hta => cases hta with
        | cons t3 hta => cases hta with
        | cons t4 hta =>
        cases hta
        cases t1; cases t2; cases t3
        have e := t4.opt
        subst e
        exact ⟨_, d, _, h1, (tupsOf_is ht).1⟩
structure Apart (H : Hp) (L G : Addr) (ps : List (Addr × Addr)) : Prop where
  lg : L ≠ G
  ql : ∀ q ∈ ps, q.2 ≠ L
  qg : ∀ q ∈ ps, q.2 ≠ G
theorem OwnB.parts {H : Hp} {L G : Addr} {ps : List (Addr × Addr)} {ls : List Int} {gs : List Good} (h : OwnB H L G ps ls gs) (h1 : 1 ≤ ls.length) (h2 : 1 ≤ gs.length) (h3 : ∀ g ∈ gs, 1 ≤ g.days.length) : Apart H L G ps := by
  obtain ⟨l0, lr, rfl⟩ : ∃ l0 lr, ls = l0 :: lr := by
    cases ls with
    | nil => simp at h1
    | cons a b => exact ⟨a, b, rfl⟩
  have hps := h.goods.length
  obtain ⟨q0, qr, rfl⟩ : ∃ q0 qr, ps = q0 :: qr := by
    cases ps with
    | nil => simp at hps; omega
    | cons a b => exact ⟨a, b, rfl⟩
  have hL := h.lights
  have hG := h.list
  refine ⟨fun z => ?_, fun q hq z => ?_, fun q hq z => ?_⟩
  · rw [z, hG] at hL
    cases hL
  · obtain ⟨g, hg, ho⟩ := h.goods.mem q hq
    obtain ⟨t, d, xs, e1, e2⟩ := ho.head (h3 g hg)
    rw [z, hL] at e1
    cases e1
  · obtain ⟨g, hg, ho⟩ := h.goods.mem q hq
    obtain ⟨t, d, xs, e1, e2⟩ := ho.head (h3 g hg)
    rw [z, hG] at e1
    cases e1
    obtain ⟨g0, hg0, ho0⟩ := h.goods.mem q0 List.mem_cons_self
    have := ho0.tup
    rw [e2] at this
    cases this
theorem OwnB.light {H : Hp} {L G : Addr} {ps : List (Addr × Addr)} {ls ms : List Int} {gs : List Good} (h : OwnB H L G ps ls gs) (a : Apart H L G ps) : OwnB (upd H L (.lst (ms.map V.int))) L G ps ms gs :=
  ⟨upd_same, by rw [upd_ne a.lg.symm]; exact h.list, h.goods.upd h.lights a.ql, h.apart⟩
theorem OwnB.day {H : Hp} {L G : Addr} {q : Addr × Addr} {ps : List (Addr × Addr)} {ls : List Int} {g g' : Good} {gs : List Good} {m : Nat} {t : Addr} {d : Day} {xs : List V} (h : OwnB H L G (q :: ps) ls (g :: gs)) (a : Apart H L G (q :: ps)) (hx : H q.2 = some (.lst xs)) (ht : H t = some (.tup [.int d.want, .int d.loaf, .int d.keep, optV d.fine])) (h1 : g'.life = g.life) (h2 : g'.days = g.days.set m d) : OwnB (upd H q.2 (.lst (xs.set m (.ref t)))) L G (q :: ps) ls (g' :: gs) := by
  have hnd := h.apart
  rw [List.map_cons, List.nodup_cons] at hnd
  have hg := h.goods
  cases hg with
  | cons ho hr =>
  obtain ⟨ys, e1, e2⟩ := ho.lst
  rw [hx] at e1
  cases e1
  have su := tupsOf_upd (o := .lst (xs.set m (.ref t))) hx
  refine ⟨by rw [upd_ne (a.ql q List.mem_cons_self).symm]; exact h.lights, by rw [upd_ne (a.qg q List.mem_cons_self).symm]; exact h.list, .cons ⟨?_, _, upd_same, ?_⟩ (hr.upd hx fun p hp z => hnd.1 (List.mem_map.mpr ⟨p, hp, z⟩)), h.apart⟩
  · rw [upd_ne (fun z => by have := ho.tup; rw [z, hx] at this; cases this), h1]
    exact ho.tup
  · rw [h2, List.map_set]
    refine TkAll.setAt (e2.same su) (.tup (su _ _ (tupsOf_at ht)) (.cons (.int _) (.cons (.int _) (.cons (.int _) (.cons (Tk.optV _) .nil)))))
end Bk

namespace Bk
open PySem PySem.Spec PyProof.Rows L2
/-! ### enumerate over zip: zip's own pair may be held by what enumerate hands out, be gone, or not be there yet -/
abbrev zObj (f0 : Value) (f : Bool) (TI TO : Addr) : Obj := { cls := .type "zip", dict := none, data := .fields #[f0, .bool f, .bool false, .ref TI, .ref TO], slots := #[] }
section
variable {prog : Program} {w : World} {A : Around} {E : Value → Shared → Prop} {s : Shared}
theorem load_if {a : Addr} {Q : Option Obj → Shared → Prop} (h : Q (s.heap.get? a) s) : wpAny (model prog w) A (loadIfAlive a) Q E s := fun _ _ _ => h
/-- zip's pair may be written again: it is not there yet, or gone -/
def MayWrite (h : Heap) (f0 : Value) : Prop := f0 = .none ∨ ∃ T : Addr, f0 = rawInt T ∧ h.get? T = none
theorem zip_may {z TI TO : Addr} {f0 : Value} {f : Bool} {Q : Bool → Shared → Prop} (hz : s.heap.get? z = some (zObj f0 f TI TO)) (hm : MayWrite s.heap f0) (h : Q true s) :
    wpAny (model prog w) A (Builtin.SmallTypes.ownedTupleIsFree (.ref z)) Q E s := by
  unfold Builtin.SmallTypes.ownedTupleIsFree
  rcases hm with rfl | ⟨T, rfl, hT⟩
  · exact wpAny_bind (wpAny_field hz rfl (x := .none) rfl (wpAny_pure h))
  · refine wpAny_bind (wpAny_field hz rfl (x := rawInt T) rfl ?_)
    show wpAny _ _ (loadIfAlive ((T : Int).toNat) >>= _) _ _ _
    rw [Int.toNat_natCast]
    refine wpAny_bind (load_if ?_)
    rw [hT]
    exact wpAny_pure h
theorem zip_item_may {z TI TO i1 i2 l1 l2 : Addr} {f0 : Value} {f : Bool} {k : Nat} {xs ys : Array Value} {x y a b : Value} {Q : Value → Shared → Prop} (D : ZipApart z TI TO i1 i2 l1 l2)
    (hz : s.heap.get? z = some (zObj f0 f TI TO)) (hm : MayWrite s.heap f0) (hTI : IsPair s.heap TI (.ref i1) (.ref i2)) (hTO : IsPair s.heap TO a b)
    (h1 : s.heap.IsListIter i1 l1 k) (h2 : s.heap.IsListIter i2 l2 k) (hl1 : s.heap.IsList l1 xs) (hl2 : s.heap.IsList l2 ys) (hx : xs[k]? = some x) (hy : ys[k]? = some y)
    (hQ : ∀ h', h'.get? z = some (zObj (rawInt s.heap.objs.size) false TI TO) → IsPair h' TO x y → h'.IsListIter i1 l1 (k + 1) → h'.IsListIter i2 l2 (k + 1) → IsPair h' s.heap.objs.size x y → h'.objs.size = s.heap.objs.size + 1 →
      (∀ c o, c ≠ z → c ≠ TO → c ≠ i1 → c ≠ i2 → s.heap.get? c = some o → h'.get? c = some o) → Q (.ref s.heap.objs.size) { s with heap := h' }) :
    wpAny (model prog w) A (Builtin.«zip.__next__» ⟨[.ref z], []⟩) (fun fin s' => ∃ v, fin = .done (.ret v) ∧ Q v s') E s := by
  show wpAny _ _ (field (.ref z) 2 >>= _) _ _ _
  refine wpAny_bind (wpAny_field hz rfl (x := .bool false) rfl ?_)
  show wpAny _ _ (field (.ref z) 3 >>= _) _ _ _
  refine wpAny_bind (wpAny_field hz rfl (x := .ref TI) rfl (wpAny_bind (wpAny_seqItems hTI rfl ?_)))
  show wpAny _ _ (Builtin.SmallTypes.ownedTupleIsFree (.ref z) >>= _) _ _ _
  refine wpAny_bind (zip_may hz hm ?_)
  simp only [if_true]
  refine wpAny_bind (wpAny_rule (wpAny_bind (wpAny_field hz rfl (x := .ref TO) rfl (wpAny_bind (wpAny_setField_rec hz (by simp) fun g1 z1 s1 => ?_)))))
  replace z1 : g1.get? z = some (zObj .ellipsis f TI TO) := z1
  refine wpAny_bind ?_
  simp only [List.zipIdx_cons, List.zipIdx_nil, List.forIn_cons, List.forIn_nil]
  refine wpAny_bind (wpAny_bind (wpAny_onRaise ?_))
  show wpAny _ _ (Builtin.SmallTypes.nextOf (.ref i1) >>= _) _ _ _
  refine wpAny_bind (wpAny_nextOf_list_item (h1.extBut s1.extBut D.i1z) (hl1.extBut s1.extBut D.l1z) hx fun g2 e1 s2 => wpAny_pure ?_)
  have o2 : IsPair g2 TO a b := s2.extBut _ _ D.TOi1 (s1.extBut _ _ D.TOz hTO)
  refine wpAny_bind (wpAny_seqItems o2 rfl (wpAny_bind (wpAny_updateSeq_pair o2 fun g3 o3 s3 => ?_)))
  replace o3 : IsPair g3 TO x b := o3
  refine wpAny_bind (wpAny_letGo (wpAny_pure (wpAny_bind (wpAny_bind (wpAny_onRaise ?_)))))
  show wpAny _ _ (Builtin.SmallTypes.nextOf (.ref i2) >>= _) _ _ _
  refine wpAny_bind (wpAny_nextOf_list_item (((h2.extBut s1.extBut D.i2z).extBut s2.extBut D.i12.symm).extBut s3.extBut D.TOi2.symm)
    (((hl2.extBut s1.extBut D.l2z).extBut s2.extBut D.l2i1).extBut s3.extBut D.l2TO) hy fun g4 e2 s4 => wpAny_pure ?_)
  have o4 : IsPair g4 TO x b := s4.extBut _ _ D.TOi2 o3
  refine wpAny_bind (wpAny_seqItems o4 rfl (wpAny_bind (wpAny_updateSeq_pair o4 fun g5 o5 s5 => ?_)))
  replace o5 : IsPair g5 TO x y := o5
  refine wpAny_bind (wpAny_letGo (wpAny_pure (wpAny_pure (wpAny_bind (wpAny_seqItems o5 rfl (wpAny_bind (wpAny_newTuple ?_)))))))
  have hsz : g5.objs.size = s.heap.objs.size := by rw [s5.1, s4.1, s3.1, s2.1, s1.1]
  have z5 : g5.get? z = some (zObj .ellipsis f TI TO) := s5.extBut _ _ D.TOz.symm (s4.extBut _ _ D.i2z.symm (s3.extBut _ _ D.TOz.symm (s2.extBut _ _ D.i1z.symm z1)))
  have k5 : ∀ c o, c ≠ z → c ≠ TO → c ≠ i1 → c ≠ i2 → s.heap.get? c = some o → g5.get? c = some o := fun c o c1 c2 c3 c4 e =>
    s5.extBut _ _ c2 (s4.extBut _ _ c4 (s3.extBut _ _ c2 (s2.extBut _ _ c3 (s1.extBut _ _ c1 e))))
  have e15 : g5.IsListIter i1 l1 (k + 1) := ((e1.extBut s3.extBut D.TOi1.symm).extBut s4.extBut D.i12).extBut s5.extBut D.TOi1.symm
  have e25 : g5.IsListIter i2 l2 (k + 1) := e2.extBut s5.extBut D.TOi2.symm
  have zlt : z < g5.objs.size := Heap.lt_size z5
  show wpAny _ _ (Builtin.SmallTypes.ownedTupleHandOut (.ref z) (.ref g5.objs.size) >>= _) _ _ _
  refine wpAny_bind ?_
  unfold Builtin.SmallTypes.ownedTupleHandOut
  have z6 : (g5.push { cls := .type "tuple", data := .seq #[x, y] }).get? z = some (zObj .ellipsis f TI TO) := Heap.get?_push_of_some _ z5
  refine wpAny_bind (wpAny_setField_rec z6 (by simp) fun g7 z7 s7 => ?_)
  replace z7 : g7.get? z = some (zObj (rawInt g5.objs.size) f TI TO) := z7
  refine wpAny_setField_rec z7 (by simp) fun g8 z8 s8 => ?_
  replace z8 : g8.get? z = some (zObj (rawInt g5.objs.size) false TI TO) := z8
  have up : ∀ c o, c ≠ z → g5.get? c = some o → g8.get? c = some o := fun c o c1 e => s8.extBut _ _ c1 (s7.extBut _ _ c1 (Heap.get?_push_of_some _ e))
  have t8 : IsPair g8 g5.objs.size x y := s8.extBut _ _ (Nat.ne_of_gt zlt) (s7.extBut _ _ (Nat.ne_of_gt zlt) (Heap.get?_push_size _ rfl))
  have n8 : g8.objs.size = g5.objs.size + 1 := by rw [s8.1, s7.1, Heap.size_push]
  rw [hsz] at z8 t8 n8
  refine wpAny_pure ⟨_, rfl, ?_⟩
  show Q (.ref g5.objs.size) _
  rw [hsz]
  exact hQ g8 z8 (up _ _ D.TOz o5) (e15.at fun o e => up _ o D.i1z e) (e25.at fun o e => up _ o D.i2z e) t8 n8 fun c o c1 c2 c3 c4 e => up c o c1 (k5 c o c1 c2 c3 c4 e)
theorem zip_end_may {z TI TO i1 i2 l1 l2 : Addr} {f0 : Value} {f : Bool} {k : Nat} {xs ys : Array Value} {a b : Value} {Q : Fin → Shared → Prop} (hh : A.handled = none) (D : ZipApart z TI TO i1 i2 l1 l2)
    (hz : s.heap.get? z = some (zObj f0 f TI TO)) (hm : MayWrite s.heap f0) (hTI : IsPair s.heap TI (.ref i1) (.ref i2)) (hTO : IsPair s.heap TO a b)
    (h1 : s.heap.IsListIter i1 l1 k) (h2 : s.heap.IsListIter i2 l2 k) (hl1 : s.heap.IsList l1 xs) (hl2 : s.heap.IsList l2 ys) (hend : xs[k]? = none ∨ ys[k]? = none)
    (hE : ∀ h' e, (∀ c o, c ≠ z → c ≠ TO → c ≠ i1 → c ≠ i2 → s.heap.get? c = some o → h'.get? c = some o) → (∃ o, h'.get? e = some o ∧ o.cls = .type "StopIteration") → E (.ref e) { s with heap := h' }) :
    wpAny (model prog w) A (Builtin.«zip.__next__» ⟨[.ref z], []⟩) Q E s := by
  show wpAny _ _ (field (.ref z) 2 >>= _) _ _ _
  refine wpAny_bind (wpAny_field hz rfl (x := .bool false) rfl ?_)
  show wpAny _ _ (field (.ref z) 3 >>= _) _ _ _
  refine wpAny_bind (wpAny_field hz rfl (x := .ref TI) rfl (wpAny_bind (wpAny_seqItems hTI rfl ?_)))
  show wpAny _ _ (Builtin.SmallTypes.ownedTupleIsFree (.ref z) >>= _) _ _ _
  refine wpAny_bind (zip_may hz hm ?_)
  simp only [if_true]
  refine wpAny_bind (wpAny_rule (wpAny_bind (wpAny_field hz rfl (x := .ref TO) rfl (wpAny_bind (wpAny_setField_rec hz (by simp) fun g1 z1 s1 => ?_)))))
  replace z1 : g1.get? z = some (zObj .ellipsis f TI TO) := z1
  refine wpAny_bind ?_
  simp only [List.zipIdx_cons, List.zipIdx_nil, List.forIn_cons, List.forIn_nil]
  refine wpAny_bind (wpAny_bind (wpAny_onRaise ?_))
  show wpAny _ _ (Builtin.SmallTypes.nextOf (.ref i1) >>= _) _ _ _
  have fin : ∀ (g : Heap) (e : Addr), g.get? z = some (zObj .ellipsis f TI TO) → (∃ o, g.get? e = some o ∧ o.cls = .type "StopIteration") → (∀ c o, c ≠ z → c ≠ TO → c ≠ i1 → c ≠ i2 → s.heap.get? c = some o → g.get? c = some o) →
      wpAny (model prog w) A (setField (.ref z) 0 .none) (fun _ => E (.ref e)) E { s with heap := g } := fun g e zg ⟨oe, he, hc⟩ hk => by
    have hez : e ≠ z := fun q => by subst q; rw [zg] at he; cases he; simp at hc
    exact wpAny_setField_rec zg (by simp) fun g' _ sg => hE g' e (fun c o c1 c2 c3 c4 q => sg.extBut _ _ c1 (hk c o c1 c2 c3 c4 q)) ⟨oe, sg.extBut _ _ hez he, hc⟩
  cases hx : xs[k]? with
  | none =>
    refine wpAny_bind (wpAny_nextOf_list_end hh (h1.extBut s1.extBut D.i1z) (hl1.extBut s1.extBut D.l1z) hx fun g2 e s2 he => ?_)
    exact fin g2 e (s2 _ _ D.i1z.symm z1) he fun c o c1 _ c3 _ q => s2 _ _ c3 (s1.extBut _ _ c1 q)
  | some x =>
    have hy : ys[k]? = none := by rcases hend with h | h; rw [hx] at h; cases h; exact h
    refine wpAny_bind (wpAny_nextOf_list_item (h1.extBut s1.extBut D.i1z) (hl1.extBut s1.extBut D.l1z) hx fun g2 e1 s2 => wpAny_pure ?_)
    have o2 : IsPair g2 TO a b := s2.extBut _ _ D.TOi1 (s1.extBut _ _ D.TOz hTO)
    refine wpAny_bind (wpAny_seqItems o2 rfl (wpAny_bind (wpAny_updateSeq_pair o2 fun g3 o3 s3 => ?_)))
    refine wpAny_bind (wpAny_letGo (wpAny_pure (wpAny_bind (wpAny_bind (wpAny_onRaise ?_)))))
    show wpAny _ _ (Builtin.SmallTypes.nextOf (.ref i2) >>= _) _ _ _
    refine wpAny_bind (wpAny_nextOf_list_end hh (((h2.extBut s1.extBut D.i2z).extBut s2.extBut D.i12.symm).extBut s3.extBut D.TOi2.symm)
      (((hl2.extBut s1.extBut D.l2z).extBut s2.extBut D.l2i1).extBut s3.extBut D.l2TO) hy fun g4 e s4 he => ?_)
    exact fin g4 e (s4 _ _ D.i2z.symm (s3.extBut _ _ D.TOz.symm (s2.extBut _ _ D.i1z.symm z1))) he fun c o c1 c2 c3 c4 q => s4 _ _ c4 (s3.extBut _ _ c2 (s2.extBut _ _ c3 (s1.extBut _ _ c1 q)))
/-- zip over two lists, k pairs told, whatever became of them -/
structure ZSt (z TI TO i1 i2 l1 l2 : Addr) (k : Nat) (h : Heap) : Prop where
  obj : ∃ (f0 : Value) (f : Bool), h.get? z = some (zObj f0 f TI TO) ∧ (f0 = .none ∨ ∃ T : Addr, f0 = rawInt T)
  ti : IsPair h TI (.ref i1) (.ref i2)
  to : ∃ a b, IsPair h TO a b
  i1 : h.IsListIter i1 l1 k
  i2 : h.IsListIter i2 l2 k
theorem ZSt.next {z TI TO i1 i2 l1 l2 : Addr} {k : Nat} {xs ys : Array Value} {x y : Value} {Q : Value → Shared → Prop} (D : ZipApart z TI TO i1 i2 l1 l2) (Z : ZSt z TI TO i1 i2 l1 l2 k s.heap)
    (hl1 : s.heap.IsList l1 xs) (hl2 : s.heap.IsList l2 ys) (hx : xs[k]? = some x) (hy : ys[k]? = some y)
    (hQ : ∀ h', ZSt z TI TO i1 i2 l1 l2 (k + 1) h' → IsPair h' s.heap.objs.size x y → h'.objs.size = s.heap.objs.size + 1 →
      (∀ c o, c ≠ z → c ≠ TO → c ≠ i1 → c ≠ i2 → s.heap.get? c = some o → h'.get? c = some o) → Q (.ref s.heap.objs.size) { s with heap := h' }) :
    wpAny (model prog w) A (Builtin.SmallTypes.nextOf (.ref z)) Q E s := by
  obtain ⟨⟨f0, f, hz, hf⟩, hTI, ⟨a, b, hTO⟩, h1, h2⟩ := Z
  have hTy : s.TypeIs (.ref z) "zip" := ⟨_, hz, rfl⟩
  unfold Builtin.SmallTypes.nextOf
  refine wpAny_bind (wpAny_callSpecial?_slot (name := Str.ofString "__next__") hTy F.slot_zip_next
    (wpAny_call_entry F.slot_zip_next hTy F.entry_zip_next ?_ (F.args_zip_next_1 _)))
  rcases hf with rfl | ⟨T, rfl⟩
  · exact zip_item_may D hz (.inl rfl) hTI hTO h1 h2 hl1 hl2 hx hy fun h' a1 a2 a3 a4 a5 a6 a7 => wpAny_pure (hQ h' ⟨⟨_, _, a1, .inr ⟨_, rfl⟩⟩, a7 _ _ D.TIz D.TITO D.TIi1 D.TIi2 hTI, ⟨_, _, a2⟩, a3, a4⟩ a5 a6 a7)
  · cases hT : s.heap.get? T with
    | none => exact zip_item_may D hz (.inr ⟨T, rfl, hT⟩) hTI hTO h1 h2 hl1 hl2 hx hy fun h' a1 a2 a3 a4 a5 a6 a7 => wpAny_pure (hQ h' ⟨⟨_, _, a1, .inr ⟨_, rfl⟩⟩, a7 _ _ D.TIz D.TITO D.TIi1 D.TIi2 hTI, ⟨_, _, a2⟩, a3, a4⟩ a5 a6 a7)
    | some oT =>
      exact zip_next_item_held D hz hT hTI h1 h2 hl1 hl2 hx hy fun h' a1 a3 a4 a5 a6 a7 =>
        wpAny_pure (hQ h' ⟨⟨_, _, a1, .inr ⟨_, rfl⟩⟩, a7 _ _ D.TIz D.TIi1 D.TIi2 hTI, ⟨_, _, a7 _ _ D.TOz D.TOi1 D.TOi2 hTO⟩, a3, a4⟩ a5 a6 fun c o c1 _ c3 c4 => a7 c o c1 c3 c4)
theorem ZSt.stop {z TI TO i1 i2 l1 l2 : Addr} {k : Nat} {xs ys : Array Value} {Q : Value → Shared → Prop} (hh : A.handled = none) (D : ZipApart z TI TO i1 i2 l1 l2) (Z : ZSt z TI TO i1 i2 l1 l2 k s.heap)
    (hl1 : s.heap.IsList l1 xs) (hl2 : s.heap.IsList l2 ys) (hend : xs[k]? = none ∨ ys[k]? = none)
    (hE : ∀ h' e, (∀ c o, c ≠ z → c ≠ TO → c ≠ i1 → c ≠ i2 → s.heap.get? c = some o → h'.get? c = some o) → (∃ o, h'.get? e = some o ∧ o.cls = .type "StopIteration") → E (.ref e) { s with heap := h' }) :
    wpAny (model prog w) A (Builtin.SmallTypes.nextOf (.ref z)) Q E s := by
  obtain ⟨⟨f0, f, hz, hf⟩, hTI, ⟨a, b, hTO⟩, h1, h2⟩ := Z
  have hTy : s.TypeIs (.ref z) "zip" := ⟨_, hz, rfl⟩
  unfold Builtin.SmallTypes.nextOf
  refine wpAny_bind (wpAny_callSpecial?_slot (name := Str.ofString "__next__") hTy F.slot_zip_next
    (wpAny_call_entry F.slot_zip_next hTy F.entry_zip_next ?_ (F.args_zip_next_1 _)))
  rcases hf with rfl | ⟨T, rfl⟩
  · exact zip_end_may hh D hz (.inl rfl) hTI hTO h1 h2 hl1 hl2 hend hE
  · cases hT : s.heap.get? T with
    | none => exact zip_end_may hh D hz (.inr ⟨T, rfl, hT⟩) hTI hTO h1 h2 hl1 hl2 hend hE
    | some oT => exact zip_next_end_held hh D hz hT hTI h1 h2 hl1 hl2 hend fun h' e hk => hE h' e fun c o c1 _ c3 c4 => hk c o c1 c3 c4
end
/-- the lists at a and b as they stand at each turn: the count, and beside it a new pair of the two items -/
def Itez (K : PySem.W.Frag) (a b : Addr) : It :=
  ⟨fun i H => ∃ (xs ys : List V) (x y : V), SqL K H a xs ∧ SqL K H b ys ∧ xs[i]? = some x ∧ ys[i]? = some y,
    fun i H v H' => ∃ T U x y, v = .ref U ∧ H T = none ∧ upd H T (.tup [x, y]) U = none ∧ H' = upd (upd H T (.tup [x, y])) U (.tup [.int (i : Nat), .ref T]) ∧ (∀ xs, SqL K H a xs → xs[i]? = some x) ∧ ∀ ys, SqL K H b ys → ys[i]? = some y,
    fun i H => ∃ xs ys : List V, SqL K H a xs ∧ SqL K H b ys ∧ (xs.length ≤ i ∨ ys.length ≤ i)⟩
section
open AutoSeq1 (wpAny_loadPart')
end
section
variable {prog : Program} {w : World} {A : Around} {E : Value → Shared → Prop} {s : Shared}
end
def iEnumZip (K : PySem.W.Frag) (ta : TA) : TI := fun σ H R => ta σ H fun vs H1 => ∃ a b xs ys, vs = [.ref a, .ref b] ∧ SqL K H1 a xs ∧ SqL K H1 b ys ∧ R (Itez K a b) H1
/-- the count and a new pair of the i-th of both -/
def YEz (xs ys : Nat → Option V) : Nat → Hp → V → Hp → Prop := fun i H v H' => ∃ T U x y, v = .ref U ∧ H T = none ∧ upd H T (.tup [x, y]) U = none ∧ H' = upd (upd H T (.tup [x, y])) U (.tup [.int (i : Nat), .ref T]) ∧ xs i = some x ∧ ys i = some y
def rEnumZip (K : PySem.W.Frag) (vs : List V) (H : Hp) (R : It → Hp → Prop) : Prop := ∃ a b xs ys, vs = [.ref a, .ref b] ∧ SqL K H a xs ∧ SqL K H b ys ∧ R (Itez K a b) H
theorem iEnumZip_eq {K : PySem.W.Frag} {ta : TA} {σ : L2.St} {H : Hp} {R : It → Hp → Prop} : iEnumZip K ta σ H R = ta σ H fun vs H1 => rEnumZip K vs H1 R := rfl
theorem rEnumZip_r {K : PySem.W.Frag} {a b : Addr} {H : Hp} {R : It → Hp → Prop} : rEnumZip K [.ref a, .ref b] H R = ∃ xs ys, SqL K H a xs ∧ SqL K H b ys ∧ R (Itez K a b) H := propext ⟨fun ⟨_, _, xs, ys, e, h⟩ => by cases e; exact ⟨xs, ys, h⟩, fun ⟨xs, ys, h⟩ => ⟨a, b, xs, ys, rfl, h⟩⟩
end Bk

namespace Bk
open PySem PySem.Spec PyProof.Rows L2
open C8 (Met pe_mt pe_mt0)
/-! ### a ledger: what stands beside its own three lists -/
def but (S : List Addr) (H : Hp) : Hp := fun b => if b ∈ S then none else H b
theorem but_at {S : List Addr} {H : Hp} {b : Addr} {o : HO} (h : b ∉ S) (e : H b = some o) : but S H b = some o := by
  unfold but
  rw [if_neg h]
  exact e
theorem but_is {S : List Addr} {H : Hp} {b : Addr} {o : HO} (e : but S H b = some o) : b ∉ S ∧ H b = some o := by
  unfold but at e
  split at e
  · cases e
  · rename_i h
    exact ⟨h, e⟩
theorem but_same (S : List Addr) (H : Hp) : Same (but S H) H := fun b o e => (but_is e).2
theorem but_mono {S : List Addr} {H H' : Hp} (s : Same H H') : Same (but S H) (but S H') := fun b o e => but_at (but_is e).1 (s _ _ (but_is e).2)
theorem but_upd {S : List Addr} {H : Hp} {a : Addr} {o : HO} (h : a ∈ S) : but S (upd H a o) = but S H := by
  funext b
  unfold but
  by_cases hb : b ∈ S
  · rw [if_pos hb, if_pos hb]
  · rw [if_neg hb, if_neg hb, upd_ne (fun z => hb (by rw [z]; exact h))]
/-! ### the fields -/
def lf (L D E : Addr) (life : V) : List (Str × V) := [("lights", .ref L), ("days", .ref D), ("life", life), ("deeds", .ref E)]
/-! ### deeds -/
abbrev Deed := Option (Nat × Str × Option Int)
def Dd (H : Hp) (v : V) : Deed → Prop
  | none => v = .non
  | some (a, s, o) => ∃ t, v = .ref t ∧ H t = some (.tup [.int (a : Int), .str s, optV o])
theorem Dd.same {H H' : Hp} {v : V} {d : Deed} (s : Same (tupsOf H) (tupsOf H')) (h : Dd H v d) : Dd H' v d := by
  match d, h with
  | none, h => exact h
  | some (a, z, o), ⟨t, e, h⟩ => exact ⟨t, e, (tupsOf_is (s _ _ (tupsOf_at h))).1⟩
inductive Dds (H : Hp) : List V → List Deed → Prop
  | nil : Dds H [] []
  | cons {v : V} {d : Deed} {vs : List V} {ds : List Deed} : Dd H v d → Dds H vs ds → Dds H (v :: vs) (d :: ds)
theorem Dds.same {H H' : Hp} (s : Same (tupsOf H) (tupsOf H')) : ∀ {vs : List V} {ds : List Deed}, Dds H vs ds → Dds H' vs ds
  | _, _, .nil => .nil
  | _, _, .cons h t => .cons (h.same s) (Dds.same s t)
theorem Dds.length {H : Hp} : ∀ {vs : List V} {ds : List Deed}, Dds H vs ds → vs.length = ds.length
  | _, _, .nil => rfl
  | _, _, .cons _ t => by rw [List.length_cons, List.length_cons, Dds.length t]
theorem Dds.snoc {H : Hp} {v : V} {d : Deed} : ∀ {vs : List V} {ds : List Deed}, Dds H vs ds → Dd H v d → Dds H (vs ++ [v]) (ds ++ [d])
  | _, _, .nil, h => .cons h .nil
  | _, _, .cons g t, h => .cons g (Dds.snoc t h)
/-- the last deed, and those ahead of it -/
theorem Dds.last {H : Hp} : ∀ {vs : List V} {ds : List Deed} {d : Deed}, Dds H vs (ds ++ [d]) → ∃ us v, vs = us ++ [v] ∧ Dds H us ds ∧ Dd H v d
  | vs, [], d, h0 => by
    have h : Dds H vs ([d] : List Deed) := h0
    cases h with
    | cons hd t => cases t; exact ⟨[], _, rfl, .nil, hd⟩
  | vs, e :: ds, d, h0 => by
    have h : Dds H vs (e :: (ds ++ [d])) := h0
    cases h with
    | cons hd t =>
      obtain ⟨us, v, rfl, h1, h2⟩ := Dds.last t
      exact ⟨_ :: us, v, rfl, .cons hd h1, h2⟩
structure Led (C : Addr) (H : Hp) (p L D E : Addr) (ls : List Int) (g : Good) (ds : List Deed) : Prop where
  obj : ∃ dx, H p = some (.ins C dx (lf L D E (optV g.life)))
  li : H L = some (.lst (ls.map V.int))
  da : ∃ xs, H D = some (.lst xs) ∧ TkAll (tupsOf H) xs (g.days.map dayD)
  de : ∃ ws, H E = some (.lst ws) ∧ Dds H ws ds
  ok : bakB (bakD ⟨ls, none, [g]⟩) = true
  ld : L ≠ D
  le : L ≠ E
  dE : D ≠ E
theorem Led.same {C p L D E : Addr} {H H' : Hp} {ls : List Int} {g : Good} {ds : List Deed} (h : Led C H p L D E ls g ds) (s : Same H H') : Led C H' p L D E ls g ds := by
  obtain ⟨⟨dx, ho⟩, hl, ⟨xs, hd, ht⟩, ⟨ws, he, hw⟩, ok, a, b, c⟩ := h
  exact ⟨⟨dx, s _ _ ho⟩, s _ _ hl, ⟨xs, s _ _ hd, ht.same (tupsOf_mono s)⟩, ⟨ws, s _ _ he, hw.same (tupsOf_mono s)⟩, ok, a, b, c⟩
section
variable {C p L D E : Addr} {H : Hp} {ls : List Int} {g : Good} {ds : List Deed}
theorem Led.not_new (h : Led C H p L D E ls g ds) {q : Addr} (hq : H q = none) : q ∉ [L, D, E] := fun hm => by
  obtain ⟨_, hl, ⟨xs, hd, _⟩, ⟨ws, he, _⟩, _⟩ := h
  simp only [List.mem_cons, List.not_mem_nil, or_false] at hm
  rcases hm with rfl | rfl | rfl
  · rw [hl] at hq; cases hq
  · rw [hd] at hq; cases hq
  · rw [he] at hq; cases hq
theorem Led.light (h : Led C H p L D E ls g ds) {i : Nat} {z : Int} (hz : numD (.int z) = true) : Led C (upd H L (.lst ((ls.set i z).map V.int))) p L D E (ls.set i z) g ds := by
  obtain ⟨⟨dx, ho⟩, hl, ⟨xs, hd, ht⟩, ⟨ws, he, hw⟩, ok, a, b, c⟩ := h
  have st := tupsOf_upd (o := .lst ((ls.set i z).map V.int)) hl
  refine ⟨⟨dx, by rw [upd_ne (fun q => by rw [q, hl] at ho; cases ho)]; exact ho⟩, upd_same, ⟨xs, by rw [upd_ne a.symm]; exact hd, ht.same st⟩, ⟨ws, by rw [upd_ne b.symm]; exact he, hw.same st⟩, ?_, a, b, c⟩
  obtain ⟨⟨c1, c2⟩, c3, c4, ⟨c5, c6⟩, c7⟩ := bak_parts ok
  refine bakB_mk (by rw [List.length_set]; exact c1) (by rw [List.length_set]; exact c2) (fun y hy => ?_) c4 c5 c6 (fun g' hg' => ?_)
  · rcases List.mem_or_eq_of_mem_set hy with hy | rfl
    · exact c3 y hy
    · exact hz
  · rw [List.length_set]
    exact c7 g' hg'
def setG (g : Good) (i : Nat) (d : Day) : Good := ⟨g.days.set i d, g.life⟩
theorem Led.day (h : Led C H p L D E ls g ds) {i : Nat} {t : Addr} {d : Day} {xs : List V} (hx : H D = some (.lst xs)) (ht : H t = some (.tup [.int d.want, .int d.loaf, .int d.keep, optV d.fine])) (hz : dayB (dayD d) = true) : Led C (upd H D (.lst (xs.set i (.ref t)))) p L D E ls (setG g i d) ds := by
  obtain ⟨⟨dx, ho⟩, hl, ⟨xs', hd, htk⟩, ⟨ws, he, hw⟩, ok, a, b, c⟩ := h
  rw [hd] at hx
  cases hx
  have st := tupsOf_upd (o := .lst (xs.set i (.ref t))) hd
  have hday : Tk (tupsOf H) (.ref t) (dayD d) := .tup (tupsOf_at ht) (.cons (.int _) (.cons (.int _) (.cons (.int _) (.cons (Tk.optV _) .nil))))
  refine ⟨⟨dx, by rw [upd_ne (fun q => by rw [q, hd] at ho; cases ho)]; exact ho⟩, by rw [upd_ne a]; exact hl, ⟨_, upd_same, ?_⟩, ⟨ws, by rw [upd_ne c.symm]; exact he, hw.same st⟩, ?_, a, b, c⟩
  · have := (TkAll.setAt (i := i) htk hday).same st
    show TkAll _ _ ((g.days.set i d).map dayD)
    rw [List.map_set]
    exact this
  · obtain ⟨⟨c1, c2⟩, c3, c4, ⟨c5, c6⟩, c7⟩ := bak_parts ok
    refine bakB_mk c1 c2 c3 c4 (Nat.le_refl _) (by show 1 ≤ 2; decide) (fun g' hg' => ?_)
    rw [List.mem_singleton.mp hg']
    obtain ⟨k1, k2, k3⟩ := c7 g List.mem_cons_self
    refine ⟨by show (g.days.set i d).length = _; rw [List.length_set]; exact k1, k2, fun y hy => ?_⟩
    have hy : y ∈ g.days.set i d := hy
    rcases List.mem_or_eq_of_mem_set hy with hy | rfl
    · exact k3 y hy
    · exact hz
theorem Led.push (h : Led C H p L D E ls g ds) {w : V} {d : Deed} {ws : List V} (hx : H E = some (.lst ws)) (hw : Dd H w d) : Led C (upd H E (.lst (ws ++ [w]))) p L D E ls g (ds ++ [d]) := by
  obtain ⟨⟨dx, ho⟩, hl, ⟨xs, hd, ht⟩, ⟨ws', he, hws⟩, ok, a, b, c⟩ := h
  rw [he] at hx
  cases hx
  have st := tupsOf_upd (o := .lst (ws ++ [w])) he
  exact ⟨⟨dx, by rw [upd_ne (fun q => by rw [q, he] at ho; cases ho)]; exact ho⟩, by rw [upd_ne b]; exact hl, ⟨xs, by rw [upd_ne c]; exact hd, ht.same st⟩, ⟨_, upd_same, (hws.snoc hw).same st⟩, ok, a, b, c⟩
end
/-! ### reading its fields, calling its methods -/
structure LTxt (K : PySem.W.Frag) (C : Addr) : Prop where
  cl : Cls K C
  nL : NoAttr K C "lights"
  nD : NoAttr K C "days"
  nF : NoAttr K C "life"
  nE : NoAttr K C "deeds"
def rFld (K : PySem.W.Frag) (f : Str) (x : V) (H : Hp) (Q : VK) : Prop := ∃ a C dx fs v, x = .ref a ∧ H a = some (.ins C dx fs) ∧ Cls K C ∧ NoAttr K C f ∧ fs.lookup f = some v ∧ Q v H
theorem tFld_eq {K : PySem.W.Frag} {ta : TE} {f : Str} {σ : L2.St} {H : Hp} {Q : VK} : tFld K ta f σ H Q = ta σ H fun x H1 => rFld K f x H1 Q := rfl
def IsObj (C : Addr) (m : Str) (x : V) (H : Hp) : Prop := ∃ a dx fs, x = .ref a ∧ H a = some (.ins C dx fs) ∧ fs.lookup m = none
theorem tMeth_eq {C : Addr} {m : Str} {sp : Sp} {dvs : List V} {E : XK} {ta : TE} {t : TA} {σ : L2.St} {H : Hp} {Q : VK} : tMeth C m sp dvs E ta t σ H Q = ta σ H fun x H1 => IsObj C m x H1 ∧ t σ H1 fun vs H2 => sp (x :: (vs ++ dvs)) H2 Q E := by
  unfold tMeth IsObj
  congr 1
  funext x H1
  exact propext ⟨fun ⟨a, dx, fs, h1, h2, h3, h4⟩ => ⟨⟨a, dx, fs, h1, h2, h3⟩, h4⟩, fun ⟨⟨a, dx, fs, h1, h2, h3⟩, h4⟩ => ⟨a, dx, fs, h1, h2, h3, h4⟩⟩
section
variable {K : PySem.W.Frag} {C p L D E : Addr} {H : Hp} {ls : List Int} {g : Good} {ds : List Deed} {Q : VK}
end
/-- how a class is called -/
structure Maker (P : Program) (w : World) (K : PySem.W.Frag) (mg : Str → Option Value) (base : Heap) (x : Str) (k : Nat) (C : Addr) (sp : Sp) : Prop where
  ex : ∃ (f : Addr) (fd : FuncData) (ps : List Str), Mk K C f ∧ mg x = some (.ref C) ∧ FnOk P w K mg base CX0 k f fd ps sp ∧ Binds K fd ps []
/-- tuple.index of a text -/
def rTIx (K : PySem.W.Frag) (x : V) (xs : List V) (H : Hp) (Q : VK) : Prop := ∃ p, ∃ ys : List Str, ∃ z j, x = .ref p ∧ xs = [.str z] ∧ SqT K H p (ys.map V.str) ∧ ys[j]? = some z ∧ (∀ m, m < j → ys[m]? ≠ some z) ∧ Q (.int (j : Nat)) H
theorem rTIx_r {K : PySem.W.Frag} {p : Addr} {z : Str} {H : Hp} {Q : VK} : rTIx K (.ref p) [.str z] H Q = ∃ (ys : List Str) (j : Nat), SqT K H p (ys.map V.str) ∧ ys[j]? = some z ∧ (∀ m, m < j → ys[m]? ≠ some z) ∧ Q (.int (j : Nat)) H :=
  propext ⟨fun ⟨_, ys, z', j, e1, e2, h⟩ => by cases e1; cases e2; exact ⟨ys, j, h⟩, fun ⟨ys, j, h⟩ => ⟨p, ys, z, j, rfl, rfl, h⟩⟩
/-- the truth of any value -/
def tTru (K : PySem.W.Frag) (ta : TE) : TT := fun σ H Q => ta σ H fun x H' => ∃ k, TruV K x H' k ∧ Q k H'
end Bk

namespace Bk
open PySem PySem.Spec PyProof.Rows L2
/-! ### a ledger: a day added, a day taken back -/
theorem TkAll.snoc {H : Hp} {v : V} {d : PyData} : ∀ {xs : List V} {es : List PyData}, TkAll H xs es → Tk H v d → TkAll H (xs ++ [v]) (es ++ [d])
  | _, _, .nil, h => .cons h .nil
  | _, _, .cons g t, h => .cons g (TkAll.snoc t h)
def addG (g : Good) (d : Day) : Good := ⟨g.days ++ [d], g.life⟩
def dropG (g : Good) : Good := ⟨g.days.dropLast, g.life⟩
section
variable {C p L D E : Addr} {H : Hp} {ls : List Int} {g : Good} {ds : List Deed}
theorem Led.add (h : Led C H p L D E ls g ds) {z : Int} {t : Addr} {d : Day} {xs ws : List V} (hx : H D = some (.lst xs)) (hw : H E = some (.lst ws)) (ht : H t = some (.tup [.int d.want, .int d.loaf, .int d.keep, optV d.fine])) (hz : numD (.int z) = true) (hd : dayB (dayD d) = true) (hn : ls.length < 40) :
    Led C (upd (upd (upd H L (.lst ((ls ++ [z]).map V.int))) D (.lst (xs ++ [.ref t]))) E (.lst (ws ++ [.non]))) p L D E (ls ++ [z]) (addG g d) (ds ++ [none]) := by
  obtain ⟨⟨dx, ho⟩, hl, ⟨xs', hd', htk⟩, ⟨ws', he, hws⟩, ok, a, b, c⟩ := h
  rw [hd'] at hx
  cases hx
  rw [he] at hw
  cases hw
  have npL : p ≠ L := fun q => by rw [q, hl] at ho; cases ho
  have npD : p ≠ D := fun q => by rw [q, hd'] at ho; cases ho
  have npE : p ≠ E := fun q => by rw [q, he] at ho; cases ho
  have s1 := tupsOf_upd (o := .lst ((ls ++ [z]).map V.int)) hl
  have e2 : upd H L (.lst ((ls ++ [z]).map V.int)) D = some (.lst xs) := by rw [upd_ne a.symm]; exact hd'
  have s2 := tupsOf_upd (o := .lst (xs ++ [.ref t])) e2
  have e3 : upd (upd H L (.lst ((ls ++ [z]).map V.int))) D (.lst (xs ++ [.ref t])) E = some (.lst ws) := by rw [upd_ne c.symm, upd_ne b.symm]; exact he
  have s3 := tupsOf_upd (o := .lst (ws ++ [.non])) e3
  have st := s1.trans (s2.trans s3)
  have hday : Tk (tupsOf H) (.ref t) (dayD d) := .tup (tupsOf_at ht) (.cons (.int _) (.cons (.int _) (.cons (.int _) (.cons (Tk.optV _) .nil))))
  refine ⟨⟨dx, by rw [upd_ne npE, upd_ne npD, upd_ne npL]; exact ho⟩, by rw [upd_ne b, upd_ne a, upd_same], ⟨_, by rw [upd_ne c, upd_same], ?_⟩, ⟨_, upd_same, (hws.snoc (d := none) rfl).same st⟩, ?_, a, b, c⟩
  · show TkAll _ _ ((g.days ++ [d]).map dayD)
    rw [show (g.days ++ [d]).map dayD = g.days.map dayD ++ [dayD d] from List.map_append]
    exact (htk.snoc hday).same st
  · obtain ⟨⟨c1, c2⟩, c3, c4, ⟨c5, c6⟩, c7⟩ := bak_parts ok
    dsimp only at c1 c2 c3 c4
    obtain ⟨k1, k2, k3⟩ := c7 g List.mem_cons_self
    dsimp only at k1
    refine bakB_mk (by rw [List.length_append]; exact Nat.le_add_left 1 _) (by rw [List.length_append]; exact hn) (fun y hy => ?_) c4 (Nat.le_refl _) (by show 1 ≤ 2; decide) (fun g' hg' => ?_)
    · rcases List.mem_append.mp hy with hy | hy
      · exact c3 y hy
      · rw [List.mem_singleton.mp hy]; exact hz
    · rw [List.mem_singleton.mp hg']
      refine ⟨by show (g.days ++ [d]).length = (ls ++ [z]).length; rw [List.length_append, List.length_append, k1]; rfl, k2, fun y hy => ?_⟩
      rcases List.mem_append.mp (show y ∈ g.days ++ [d] from hy) with hy | hy
      · exact k3 y hy
      · rw [List.mem_singleton.mp hy]; exact hd
end
end Bk

namespace Bk
open PySem PySem.Spec PyProof.Rows L2
/-! ### ledgers beside each other -/
section
variable {C p L D E : Addr} {H H' : Hp} {ls : List Int} {g : Good} {ds : List Deed} {S : List Addr}
/-- all of these places hold lists -/
def Lsts (H : Hp) (S : List Addr) : Prop := ∀ q ∈ S, ∃ xs, H q = some (.lst xs)
theorem Led.lists (h : Led C H p L D E ls g ds) : Lsts H [L, D, E] := fun q hq => by
  obtain ⟨_, hl, ⟨xs, hd, _⟩, ⟨ws, he, _⟩, _⟩ := h
  simp only [List.mem_cons, List.not_mem_nil, or_false] at hq
  rcases hq with rfl | rfl | rfl
  · exact ⟨_, hl⟩
  · exact ⟨_, hd⟩
  · exact ⟨_, he⟩
theorem tups_but (hS : Lsts H S) : Same (tupsOf H) (tupsOf (but S H)) := fun b o e => by
  obtain ⟨e', ys, rfl⟩ := tupsOf_is e
  refine tupsOf_at (but_at (fun hm => ?_) e')
  obtain ⟨xs, hx⟩ := hS b hm
  rw [hx] at e'
  cases e'
theorem Led.but1 (h : Led C H p L D E ls g ds) (hS : Lsts H S) (hL : L ∉ S) (hD : D ∉ S) (hE : E ∉ S) : Led C (but S H) p L D E ls g ds := by
  obtain ⟨⟨dx, ho⟩, hl, ⟨xs, hd, ht⟩, ⟨ws, he, hw⟩, ok, a, b, c⟩ := h
  have st := tups_but hS
  refine ⟨⟨dx, but_at (fun hm => ?_) ho⟩, but_at hL hl, ⟨xs, but_at hD hd, ht.same st⟩, ⟨ws, but_at hE he, hw.same st⟩, ok, a, b, c⟩
  obtain ⟨xs, hx⟩ := hS p hm
  rw [hx] at ho
  cases ho
/-- three places that are none of these -/
def Ap (L D E : Addr) (S : List Addr) : Prop := L ∉ S ∧ D ∉ S ∧ E ∉ S
theorem Ap.symm {L' D' E' : Addr} (h : Ap L D E [L', D', E']) : Ap L' D' E' [L, D, E] := by
  obtain ⟨h1, h2, h3⟩ := h
  simp only [List.mem_cons, List.not_mem_nil, or_false, not_or] at h1 h2 h3
  obtain ⟨a1, a2, a3⟩ := h1
  obtain ⟨b1, b2, b3⟩ := h2
  obtain ⟨c1, c2, c3⟩ := h3
  refine ⟨?_, ?_, ?_⟩ <;> simp only [List.mem_cons, List.not_mem_nil, or_false, not_or]
  · exact ⟨Ne.symm a1, Ne.symm b1, Ne.symm c1⟩
  · exact ⟨Ne.symm a2, Ne.symm b2, Ne.symm c2⟩
  · exact ⟨Ne.symm a3, Ne.symm b3, Ne.symm c3⟩
/-- a ledger stays while another one's lists are changed -/
theorem Led.keep (h : Led C H p L D E ls g ds) (hS : Lsts H S) (ha : Ap L D E S) (s : Same (but S H) (but S H')) : Led C H' p L D E ls g ds :=
  ((h.but1 hS ha.1 ha.2.1 ha.2.2).same s).same (but_same _ _)
theorem Led.apart {L' D' E' : Addr} (h : Led C H p L D E ls g ds) (h1 : H L' = none) (h2 : H D' = none) (h3 : H E' = none) : Ap L' D' E' [L, D, E] := ⟨h.not_new h1, h.not_new h2, h.not_new h3⟩
end
end Bk

namespace Bk
open PySem PySem.Spec PyProof.Rows L2
section
variable {ds : List Dgh} {g : Good} {lights F F' : Nat → Int} {M M' : Nat → Nat → Int} {n N : Nat}
/-- one day more -/
theorem Bld.snoc (h : Bld ds g lights n F M N) (hF : ∀ j, j ≤ N → F' j = F j) (hM : ∀ e j, e < n → j ≤ N → M' e j = M e j)
    (h1 : (∃ e v, e < n ∧ ChD ds g lights n M e N v ∧ F' (N + 1) = v) ∨ (wantN g N = 0 ∧ F' (N + 1) = F N)) (h2 : ∀ e v, e < n → ChD ds g lights n M e N v → F' (N + 1) ≤ v) (h3 : wantN g N = 0 → F' (N + 1) ≤ F N)
    (h4 : ∀ e, e < n → ChD ds g lights n M e N (M' e (N + 1)) ∨ M' e (N + 1) = F' (N + 1) + mixF ds e) (h5 : ∀ e v, e < n → ChD ds g lights n M e N v → M' e (N + 1) ≤ v) (h6 : ∀ e, e < n → M' e (N + 1) ≤ F' (N + 1) + mixF ds e) : Bld ds g lights n F' M' (N + 1) := by
  have c1 : ∀ {e d : Nat} {v : Int}, e < n → d ≤ N → ChD ds g lights n M e d v → ChD ds g lights n M' e d v := fun he hd c => c.congr fun f hf => (hM _ f he (by omega)).symm
  have c2 : ∀ {e d : Nat} {v : Int}, e < n → d ≤ N → ChD ds g lights n M' e d v → ChD ds g lights n M e d v := fun he hd c => c.congr fun f hf => hM _ f he (by omega)
  refine ⟨by rw [hF 0 (by omega)]; exact h.zero, fun e he => by rw [hM e 0 he (by omega)]; exact h.mzero e he, fun d hd => ?_, fun d e v hd he c => ?_, fun d hd hw => ?_, fun e d he hd => ?_, fun e d v he hd c => ?_, fun e d he hd => ?_⟩
  · rcases Nat.lt_succ_iff_lt_or_eq.mp hd with z | rfl
    · rcases h.fex d z with ⟨e, v, he, c, ev⟩ | ⟨hw, ev⟩
      · exact .inl ⟨e, v, he, c1 he (by omega) c, by rw [hF (d + 1) (by omega)]; exact ev⟩
      · exact .inr ⟨hw, by rw [hF (d + 1) (by omega), hF d (by omega)]; exact ev⟩
    · rcases h1 with ⟨e, v, he, c, ev⟩ | ⟨hw, ev⟩
      · exact .inl ⟨e, v, he, c1 he (Nat.le_refl _) c, ev⟩
      · exact .inr ⟨hw, by rw [hF d (Nat.le_refl _)]; exact ev⟩
  · have c := c2 he (by omega) c
    rcases Nat.lt_succ_iff_lt_or_eq.mp hd with z | rfl
    · rw [hF (d + 1) (by omega)]; exact h.fle d e v z he c
    · exact h2 e v he c
  · rcases Nat.lt_succ_iff_lt_or_eq.mp hd with z | rfl
    · rw [hF (d + 1) (by omega), hF d (by omega)]; exact h.fun0 d z hw
    · rw [hF d (Nat.le_refl _)]; exact h3 hw
  · rcases Nat.lt_succ_iff_lt_or_eq.mp hd with z | rfl
    · rw [hM e (d + 1) he (by omega), hF (d + 1) (by omega)]
      rcases h.mex e d he z with c | c
      · exact .inl (c1 he (by omega) c)
      · exact .inr c
    · rcases h4 e he with c | c
      · exact .inl (c1 he (Nat.le_refl _) c)
      · exact .inr c
  · have c := c2 he (by omega) c
    rcases Nat.lt_succ_iff_lt_or_eq.mp hd with z | rfl
    · rw [hM e (d + 1) he (by omega)]; exact h.mle e d v he z c
    · exact h5 e v he c
  · rcases Nat.lt_succ_iff_lt_or_eq.mp hd with z | rfl
    · rw [hM e (d + 1) he (by omega), hF (d + 1) (by omega)]; exact h.mup e d he z
    · exact h6 e he
theorem Bld.init {F : Nat → Int} {M : Nat → Nat → Int} (h0 : F 0 = 0) (h1 : ∀ e, e < n → M e 0 = mixF ds e) : Bld ds g lights n F M 0 :=
  ⟨h0, h1, fun _ h => by omega, fun _ _ _ h => by omega, fun _ h => by omega, fun _ _ _ h => by omega, fun _ _ _ _ h => by omega, fun _ _ _ h => by omega⟩
/-- a wanted day has a choice: mixed and baked on the day itself -/
theorem own_chD {d : Nat} (hd : d < g.days.length) (hl : ∀ l, g.life = some l → 0 ≤ l) (hn : d < n) : ∃ v, ChD ds g lights n M d d v := by
  have e := wantP_own (g := g) (m := d) (List.getElem?_eq_getElem hd) hl
  generalize g.days[d].want * g.days[d].loaf = z at e
  have e2 : wantD ds g d d d = some (z + wantN g d * doughP ds d d) := by unfold wantD; rw [e]; rfl
  have := segP_add (segP_zero (wantD ds g d d) d) (show wantD ds g d d (d + 0) = some (z + wantN g d * doughP ds d d) from e2)
  refine ⟨M d d + lights d + (0 + (z + wantN g d * doughP ds d d)), .inl ⟨d, d, _, Nat.le_refl _, hn, Nat.le_refl _, ?_, rfl⟩⟩
  rw [show d + 1 - d = 0 + 1 by omega]
  exact this
end
end Bk

namespace Bk
open PySem PySem.Spec PyProof.Rows L2
/-! ### zip of three lists -/
/-- three lists, turn by turn: the items at one place of each, in a new tuple -/
def Itz3 (K : PySem.W.Frag) (a b c : Addr) : It where
  go i H := ∃ l1 l2 l3 : List V, (SqL K H a l1 ∧ SqL K H b l2 ∧ SqL K H c l3) ∧ i < l1.length ∧ i < l2.length ∧ i < l3.length
  yld i H v H' := ∃ T v1 v2 v3, v = .ref T ∧ H T = none ∧ H' = upd H T (.tup [v1, v2, v3]) ∧ (∀ l, SqL K H a l → l[i]? = some v1) ∧ (∀ l, SqL K H b l → l[i]? = some v2) ∧ ∀ l, SqL K H c l → l[i]? = some v3
  stop i H := ∃ l1 l2 l3 : List V, (SqL K H a l1 ∧ SqL K H b l2 ∧ SqL K H c l3) ∧ (i ≤ l1.length ∧ i ≤ l2.length ∧ i ≤ l3.length) ∧ (i = l1.length ∨ i = l2.length ∨ i = l3.length)
/-- zip's cells and those of its three iterators, at a turn -/
structure Z3 (a b c z TI TO i1 i2 i3 : Addr) (i : Nat) (h : Heap) : Prop where
  zip : IsZip h z TI TO .none
  ins : IsTupOf3 h TI (.ref i1) (.ref i2) (.ref i3)
  out : ∃ v1 v2 v3, IsTupOf3 h TO v1 v2 v3
  one : h.IsListIter i1 a i
  two : h.IsListIter i2 b i
  tri : h.IsListIter i3 c i
theorem Z3.lt {a b c z TI TO i1 i2 i3 : Addr} {i : Nat} {h : Heap} (Z : Z3 a b c z TI TO i1 i2 i3 i h) {d : Addr} (hd : d ∈ [z, TI, TO, i1, i2, i3]) : d < h.objs.size := by
  obtain ⟨z1, z2, ⟨_, _, _, z3⟩, ⟨_, z4, _⟩, ⟨_, z5, _⟩, ⟨_, z6, _⟩⟩ := Z
  simp only [List.mem_cons, List.not_mem_nil, or_false] at hd
  rcases hd with rfl | rfl | rfl | rfl | rfl | rfl <;> apply Heap.lt_size <;> assumption
theorem turn_zip3 {P : Program} {w : World} {K : PySem.W.Frag} {elts : List Expr} {kk : Nat} {tpos : Pos} {a b c z TI TO i1 i2 i3 : Addr} (S : ZipSep3 z TI TO i1 i2 i3 [i1, a] [i2, b] [i3, c]) (n1 : a ≠ i1) (n2 : b ≠ i2) (n3 : c ≠ i3) :
    Turn P w K (.Tuple elts kk tpos) (Itz3 K a b c) [z, TI, TO, i1, i2, i3] z (Z3 a b c z TI TO i1 i2 i3) where
  mem := List.mem_cons_self ..
  obj := fun i h Z d hd => by
    obtain ⟨z1, z2, ⟨_, _, _, z3⟩, ⟨o4, z4, _, w4⟩, ⟨o5, z5, _, w5⟩, ⟨o6, z6, _, w6⟩⟩ := Z
    simp only [List.mem_cons, List.not_mem_nil, or_false] at hd
    rcases hd with rfl | rfl | rfl | rfl | rfl | rfl
    · exact ⟨_, z1, fun _ x => nomatch x⟩
    · exact ⟨_, z2, fun _ x => nomatch x⟩
    · exact ⟨_, z3, fun _ x => nomatch x⟩
    · exact ⟨o4, z4, fun _ x => by rw [w4] at x; cases x⟩
    · exact ⟨o5, z5, fun _ x => by rw [w5] at x; cases x⟩
    · exact ⟨o6, z6, fun _ x => by rw [w6] at x; cases x⟩
  keep := fun i h h' Z k => by
    obtain ⟨z1, z2, ⟨_, _, _, z3⟩, z4, z5, z6⟩ := Z
    exact ⟨k _ (by simp) _ z1, k _ (by simp) _ z2, ⟨_, _, _, k _ (by simp) _ z3⟩, z4.at fun o x => k _ (by simp) o x, z5.at fun o x => k _ (by simp) o x, z6.at fun o x => k _ (by simp) o x⟩
  item := by
    intro X hP hw hK hc i pins s σ H E I hf Z hg
    subst hP hw hK
    have hlt := fun {d : Addr} hd => Z.lt (d := d) hd
    obtain ⟨z1, z2, ⟨_, _, _, z3⟩, z4, z5, z6⟩ := Z
    obtain ⟨l1, l2, l3, ⟨q1, q2, q3⟩, hl1, hl2, hl3⟩ := hg
    obtain ⟨is1, r1, p1, _⟩ := I.list q1
    obtain ⟨is2, r2, p2, _⟩ := I.list q2
    obtain ⟨is3, r3, p3, _⟩ := I.list q3
    have e1 : l1[i]? = some l1[i] := List.getElem?_eq_getElem hl1
    have e2 : l2[i]? = some l2[i] := List.getElem?_eq_getElem hl2
    have e3 : l3[i]? = some l3[i] := List.getElem?_eq_getElem hl3
    obtain ⟨u1, hu1, w1⟩ := r1.get e1
    obtain ⟨u2, hu2, w2⟩ := r2.get e2
    obtain ⟨u3, hu3, w3⟩ := r3.get e3
    have g1 : is1.toArray[i]? = some u1 := by simpa using hu1
    have g2 : is2.toArray[i]? = some u2 := by simpa using hu2
    have g3 : is3.toArray[i]? = some u3 := by simpa using hu3
    have sz : ∀ {l : List Value} {u : Value}, l.toArray[i]? = some u → i < l.toArray.size := fun h => (Array.getElem?_eq_some_iff.mp h).1
    refine wpAny_pyNext_zipD3_item S (Draws.list (prog := X.prog) (w := X.w) (A := X.A.in1) (I.ok.hd hc) i1 a n1 is1.toArray) (Draws.list (prog := X.prog) (w := X.w) (A := X.A.in1) (I.ok.hd hc) i2 b n2 is2.toArray) (Draws.list (prog := X.prog) (w := X.w) (A := X.A.in1) (I.ok.hd hc) i3 c n3 is3.toArray) z1 z2 z3 ⟨z4, p1.isList⟩ ⟨z5, p2.isList⟩ ⟨z6, p3.isList⟩ (sz g1) (sz g2) (sz g3) ?_
    intro x1 x2 x3 h' tk y1 y2 y3 z' out' s1 s2 s3 new' size' kept
    obtain rfl : x1 = u1 := Option.some.inj (y1.symm.trans g1)
    obtain rfl : x2 = u2 := Option.some.inj (y2.symm.trans g2)
    obtain rfl : x3 = u3 := Option.some.inj (y3.symm.trans g3)
    refine ⟨_, rfl, wpAny_letOwnedTupleGo_zip (s := { s with heap := h', toks := tk }) z' fun g z'' sb => ?_⟩
    have away : ∀ {d : Addr}, d ∈ [z, TI, TO, i1, i2, i3] → s.heap.objs.size ≠ d := fun hd => Nat.ne_of_gt (hlt hd)
    have new1 : g.get? s.heap.objs.size = some { cls := .type "tuple", data := .seq #[x1, x2, x3] } := (sb.2 _ (away (by simp))).trans new'
    have obj1 : ObjOk X.prog X.w (upd H s.heap.objs.size (.tup [l1[i], l2[i], l3[i]])) g s.heap.objs.size (.tup [l1[i], l2[i], l3[i]]) :=
      ⟨show 3 ≤ sizeLine by decide, [x1, x2, x3], .cons w1 (.cons w2 (.cons w3 .nil)), ⟨_, new1, rfl, _, rfl⟩⟩
    have I1 : Inv X pins σ (upd H s.heap.objs.size (.tup [l1[i], l2[i], l3[i]])) { s with heap := g, toks := tk } := by
      refine I.turnedNew (ch := [z, TI, TO, i1, i2, i3]) (fun d o hd x => ?_) hf (Nat.le_refl _) obj1
      have hd : d ≠ z ∧ d ≠ TI ∧ d ≠ TO ∧ d ≠ i1 ∧ d ≠ i2 ∧ d ≠ i3 := by simpa using hd
      exact (sb.2 d hd.1).trans (kept d o hd.1 hd.2.2.1 hd.2.2.2.1 hd.2.2.2.2.1 hd.2.2.2.2.2 x)
    refine ⟨.ref s.heap.objs.size, _, I1, rfl, ⟨_, _, _, _, rfl, I.hok.fresh (Nat.le_refl _), rfl, fun l hl => ?_, fun l hl => ?_, fun l hl => ?_⟩, ⟨z'', ?_, ⟨x1, x2, x3, ?_⟩, ?_, ?_, ?_⟩, fun d hd => ?_⟩
    · rw [I.list_inj hl q1]; exact e1
    · rw [I.list_inj hl q2]; exact e2
    · rw [I.list_inj hl q3]; exact e3
    · exact (sb.2 _ S.TIz).trans (kept _ _ S.TIz S.TITO S.TIi1 S.TIi2 S.TIi3 z2)
    · exact (sb.2 _ S.TOz).trans out'
    · exact s1.1.at fun o x => (sb.2 _ S.zi1.symm).trans x
    · exact s2.1.at fun o x => (sb.2 _ S.zi2.symm).trans x
    · exact s3.1.at fun o x => (sb.2 _ S.zi3.symm).trans x
    · rw [upd_ne (Nat.ne_of_lt (hlt hd))]
      exact (hf d hd).1
  done := by
    intro X hP hw hK hc i pins s σ H E I hf Z hg
    subst hP hw hK
    obtain ⟨z1, z2, ⟨_, _, _, z3⟩, z4, z5, z6⟩ := Z
    obtain ⟨l1, l2, l3, ⟨q1, q2, q3⟩, ⟨hl1, hl2, hl3⟩, hend⟩ := hg
    obtain ⟨is1, r1, p1, _⟩ := I.list q1
    obtain ⟨is2, r2, p2, _⟩ := I.list q2
    obtain ⟨is3, r3, p3, _⟩ := I.list q3
    have t1 : is1.toArray.size = l1.length := by rw [List.size_toArray, r1.length]
    have t2 : is2.toArray.size = l2.length := by rw [List.size_toArray, r2.length]
    have t3 : is3.toArray.size = l3.length := by rw [List.size_toArray, r3.length]
    refine wpAny_pyNext_zipD3_end S (Draws.list (prog := X.prog) (w := X.w) (A := X.A.in1) (I.ok.hd hc) i1 a n1 is1.toArray) (Draws.list (prog := X.prog) (w := X.w) (A := X.A.in1) (I.ok.hd hc) i2 b n2 is2.toArray) (Draws.list (prog := X.prog) (w := X.w) (A := X.A.in1) (I.ok.hd hc) i3 c n3 is3.toArray) z1 z2 z3 ⟨z4, p1.isList⟩ ⟨z5, p2.isList⟩ ⟨z6, p3.isList⟩ (by omega) (by omega) (by omega) (by omega) ?_
    intro h' tk kept
    refine ⟨rfl, I.turnedL (t' := tk) (ch := [z, TI, TO, i1, i2, i3]) (fun d o hd x => ?_) hf⟩
    have hd : d ≠ z ∧ d ≠ TI ∧ d ≠ TO ∧ d ≠ i1 ∧ d ≠ i2 ∧ d ≠ i3 := by simpa using hd
    exact kept d o hd.1 hd.2.2.1 hd.2.2.2.1 hd.2.2.2.2.1 hd.2.2.2.2.2 x
  self := fun A i s Q E Z h => wpAny_pyIter_zip Z.zip h
def iZip3 (K : PySem.W.Frag) (ta : TA) : TI := fun σ H R => ta σ H fun vs H1 => ∃ a b c l1 l2 l3, vs = [.ref a, .ref b, .ref c] ∧ (SqL K H1 a l1 ∧ SqL K H1 b l2 ∧ SqL K H1 c l3) ∧ R (Itz3 K a b c) H1
theorem nin_two {x y z : Nat} (h : x ∈ [y, z]) (h1 : x ≠ y) (h2 : x ≠ z) : False := by
  rcases List.mem_cons.mp h with e | e
  · exact h1 e
  · exact h2 (List.mem_singleton.mp e)
theorem ge_six (n d : Nat) (h : d = n + 5 ∨ d = n + 3 ∨ d = n + 4 ∨ d = n ∨ d = n + 1 ∨ d = n + 2) : n ≤ d := by omega
theorem sep_zip3 {n a b c : Nat} (ha : a < n) (hb : b < n) (hc : c < n) : ZipSep3 (n + 5) (n + 3) (n + 4) n (n + 1) (n + 2) [n, a] [n + 1, b] [n + 2, c] := by
  constructor
  all_goals first
    | (show (_ : Nat) ≠ _; omega)
    | exact List.mem_cons_self ..
    | (intro h; exact nin_two h (by omega) (by omega))
theorem pi_zip3 {X : Cx} {e1 e2 e3 : Expr} {ta : TA} {p pos tpos : Pos} {elts : List Expr} {kk : Nat} (hg : Gl X "zip") (hm : X.mg "zip" = none) (ha : PA X [e1, e2, e3] ta)
    (hs : starEach [e1, e2, e3] X.env = (false, eval e1 X.env) :: starEach [e2, e3] X.env := by rfl) (hpl : (backTo pos (starEach [e2, e3] X.env)).any (·.1) = false := by rfl) :
    PI X (.Tuple elts kk tpos) (.Call (.Name "zip" p) [e1, e2, e3] [] pos) (iZip3 X.K ta) := by
  refine ⟨fun pins s σ H R I h => Call_ (ld_blt I hg hm PyProof.Rows.boot_zip (PyProof.Rows.callWith_type1 (thn (ha.run pos pins s σ H _ I h) fun us s1 hus => ?_) hs hpl))⟩
  obtain ⟨vs, H1, I1, rs, a, b, c, l1, l2, l3, rfl, ⟨q1, q2, q3⟩, q⟩ := hus
  cases rs with
  | cons f1 rs =>
  cases rs with
  | cons f2 rs =>
  cases rs with
  | cons f3 rs =>
  cases rs
  cases f1
  cases f2
  cases f3
  obtain ⟨is1, r1, p1, _⟩ := I1.list q1
  obtain ⟨is2, r2, p2, _⟩ := I1.list q2
  obtain ⟨is3, r3, p3, _⟩ := I1.list q3
  refine zip_begins3 (begins_list a is1.toArray) (begins_list b is2.toArray) (begins_list c is3.toArray) p1.isList p2.isList p3.isList fun h' hz hTI hTO g1 g2 g3 hsz hk => wpAny_pyIter_zip hz ?_
  have Z : Z3 a b c (s1.heap.objs.size + 5) (s1.heap.objs.size + 3) (s1.heap.objs.size + 4) s1.heap.objs.size (s1.heap.objs.size + 1) (s1.heap.objs.size + 2) 0 h' :=
    ⟨hz, hTI, ⟨_, _, _, hTO⟩, ⟨_, g1, rfl, rfl⟩, ⟨_, g2, rfl, rfl⟩, ⟨_, g3, rfl, rfl⟩⟩
  have I2 : Inv X pins σ H1 { s1 with heap := h' } := I1.kept (t' := s1.toks) hk
  have m1 : a < s1.heap.objs.size := p1.lt
  have m2 : b < s1.heap.objs.size := p2.lt
  have m3 : c < s1.heap.objs.size := p3.lt
  refine ⟨_, [s1.heap.objs.size + 5, s1.heap.objs.size + 3, s1.heap.objs.size + 4, s1.heap.objs.size, s1.heap.objs.size + 1, s1.heap.objs.size + 2], _, _, H1, rfl, I2, turn_zip3 (sep_zip3 m1 m2 m3) (Nat.ne_of_lt m1) (Nat.ne_of_lt (Nat.lt_succ_of_lt m2)) (Nat.ne_of_lt (Nat.lt_succ_of_lt (Nat.lt_succ_of_lt m3))), Z, fun d hd => ?_, q⟩
  have hle : s1.heap.objs.size ≤ d := by
    simp only [List.mem_cons, List.not_mem_nil, or_false] at hd
    exact ge_six s1.heap.objs.size d hd
  exact I1.fpOk hle (I1.hok.fresh hle)
/-- a new tuple of the i-th of each -/
def YTri (f1 f2 f3 : Nat → Option V) : Nat → Hp → V → Hp → Prop := fun i H v H' => ∃ T v1 v2 v3, v = .ref T ∧ H T = none ∧ H' = upd H T (.tup [v1, v2, v3]) ∧ f1 i = some v1 ∧ f2 i = some v2 ∧ f3 i = some v3
theorem walk_zip3 {K : PySem.W.Frag} {a b c : Addr} {l1 l2 l3 : List V} {n : Nat} (h1 : l1.length = n) (h2 : l2.length = n) (h3 : l3.length = n) :
    Walk (Itz3 K a b c) n (fun H => SqL K H a l1 ∧ SqL K H b l2 ∧ SqL K H c l3) (YTri (fun i => l1[i]?) (fun i => l2[i]?) (fun i => l3[i]?)) where
  goes i H hi q := ⟨l1, l2, l3, q, by omega, by omega, by omega⟩
  stops H q := ⟨l1, l2, l3, q, by omega, by omega⟩
  yields i H v H' hi q y := by
    obtain ⟨T, v1, v2, v3, e, hT, e', y1, y2, y3⟩ := y
    exact ⟨T, v1, v2, v3, e, hT, e', y1 _ q.1, y2 _ q.2.1, y3 _ q.2.2⟩
def rZip3 (K : PySem.W.Frag) (vs : List V) (H : Hp) (R : It → Hp → Prop) : Prop := ∃ a b c l1 l2 l3, vs = [.ref a, .ref b, .ref c] ∧ (SqL K H a l1 ∧ SqL K H b l2 ∧ SqL K H c l3) ∧ R (Itz3 K a b c) H
theorem iZip3_eq {K : PySem.W.Frag} {ta : TA} {σ : L2.St} {H : Hp} {R : It → Hp → Prop} : iZip3 K ta σ H R = ta σ H fun vs H1 => rZip3 K vs H1 R := rfl
theorem rZip3_r {K : PySem.W.Frag} {a b c : Addr} {H : Hp} {R : It → Hp → Prop} : rZip3 K [.ref a, .ref b, .ref c] H R = ∃ l1 l2 l3, (SqL K H a l1 ∧ SqL K H b l2 ∧ SqL K H c l3) ∧ R (Itz3 K a b c) H := propext ⟨fun ⟨_, _, _, l1, l2, l3, e, h⟩ => by cases e; exact ⟨l1, l2, l3, h⟩, fun ⟨l1, l2, l3, h⟩ => ⟨a, b, c, l1, l2, l3, rfl, h⟩⟩
end Bk

namespace Bk
open PySem PySem.Spec PyProof.Rows L2
/-! ### four tables of numbers, by day and good, in lists of their own -/
def rowM (m : Nat) (f : Nat → Int) : List V := (List.range m).map fun g => V.int (f g)
structure Mats (H : Hp) (A : Nat → Addr) (R : Nat → Nat → Addr) (n m : Nat) (v : Nat → Nat → Nat → Int) : Prop where
  top : ∀ k, k < 4 → H (A k) = some (.lst ((List.range n).map fun d => V.ref (R k d)))
  row : ∀ k d, k < 4 → d < n → H (R k d) = some (.lst (rowM m (v k d)))
  inj : ∀ k d k' d', k < 4 → d < n → k' < 4 → d' < n → R k d = R k' d' → k = k' ∧ d = d'
def addV (v : Nat → Nat → Nat → Int) (k d g : Nat) (x : Int) : Nat → Nat → Nat → Int := fun k' d' g' => if k' = k ∧ d' = d ∧ g' = g then v k' d' g' + x else v k' d' g'
theorem rowM_get {m : Nat} {f : Nat → Int} {g : Nat} (h : g < m) : (rowM m f)[g]? = some (.int (f g)) := by
  unfold rowM
  rw [List.getElem?_map, List.getElem?_range h]
  rfl
theorem rowM_len (m : Nat) (f : Nat → Int) : (rowM m f).length = m := by
  unfold rowM
  rw [List.length_map, List.length_range]
theorem rowM_set {m : Nat} {f : Nat → Int} {g : Nat} {x : Int} : (rowM m f).set g (.int x) = rowM m (fun j => if j = g then x else f j) := by
  apply List.ext_getElem?
  intro j
  rw [List.getElem?_set, rowM_len]
  unfold rowM
  rw [List.getElem?_map, List.getElem?_map]
  by_cases e : g = j
  · subst e
    rw [if_pos rfl]
    by_cases h : g < m
    · rw [if_pos h, List.getElem?_range h]
      simp
    · rw [if_neg h, List.getElem?_eq_none (by rw [List.length_range]; omega)]
      rfl
  · rw [if_neg e]
    by_cases h : j < m
    · rw [List.getElem?_range h]
      simp only [Option.map_some]
      rw [if_neg fun z => e z.symm]
    · rw [List.getElem?_eq_none (by rw [List.length_range]; omega)]
      rfl
theorem Mats.same {H H' : Hp} {A : Nat → Addr} {R : Nat → Nat → Addr} {n m : Nat} {v : Nat → Nat → Nat → Int} (s : Same H H') (h : Mats H A R n m v) : Mats H' A R n m v := ⟨fun k hk => s _ _ (h.top k hk), fun k d hk hd => s _ _ (h.row k d hk hd), h.inj⟩
theorem Mats.ne {H : Hp} {A : Nat → Addr} {R : Nat → Nat → Addr} {n m : Nat} {v : Nat → Nat → Nat → Int} (h : Mats H A R n m v) (hn : 1 ≤ n) {k j d : Nat} (hk : k < 4) (hj : j < 4) (hd : d < n) (hm : 1 ≤ m) : A k ≠ R j d := fun z => by
  have h1 := h.top k hk
  have h2 := h.row j d hj hd
  rw [z, h2] at h1
  have h3 := Option.some.inj h1
  injection h3 with h3
  have := congrArg (·[0]?) h3
  simp only [rowM_get hm, List.getElem?_map, List.getElem?_range (show 0 < n from hn)] at this
  cases this
theorem Mats.add {H : Hp} {A : Nat → Addr} {R : Nat → Nat → Addr} {n m : Nat} {v : Nat → Nat → Nat → Int} (h : Mats H A R n m v) (hn : 1 ≤ n) (hm : 1 ≤ m) {k d g : Nat} (hk : k < 4) (hd : d < n) (x : Int) : Mats (upd H (R k d) (.lst ((rowM m (v k d)).set g (.int (v k d g + x))))) A R n m (addV v k d g x) := by
  refine ⟨fun j hj => ?_, fun j e hj he => ?_, h.inj⟩
  · rw [upd_ne (h.ne hn hj hk hd hm)]
    exact h.top j hj
  · by_cases hz : R j e = R k d
    · obtain ⟨rfl, rfl⟩ := h.inj j e k d hj he hk hd hz
      rw [upd_same, rowM_set]
      congr 2
      unfold rowM addV
      refine List.map_congr_left fun y _ => ?_
      dsimp only
      by_cases hy : y = g
      · rw [if_pos hy, if_pos ⟨rfl, rfl, hy⟩, hy]
      · rw [if_neg hy, if_neg fun z => hy z.2.2]
    · rw [upd_ne hz, h.row j e hj he]
      congr 2
      unfold rowM addV
      refine List.map_congr_left fun y _ => ?_
      rw [if_neg fun z => hz (by rw [z.1, z.2.1])]
theorem Mats.congr {H : Hp} {A : Nat → Addr} {R : Nat → Nat → Addr} {n m : Nat} {v u : Nat → Nat → Nat → Int} (h : Mats H A R n m v) (e : ∀ k d g, k < 4 → d < n → g < m → v k d g = u k d g) : Mats H A R n m u :=
  ⟨h.top, fun k d hk hd => by
    rw [h.row k d hk hd]
    congr 2
    unfold rowM
    exact List.map_congr_left fun g hg => by rw [e k d g hk hd (List.mem_range.mp hg)], h.inj⟩
/-- what a row of a plan does on a day: baked, given, kept over its night, waiting over it -/
def valR (r : Row4) (k d g : Nat) : Int := if r.b = g ∧ ((k = 0 ∧ d = r.a) ∨ (k = 1 ∧ d = max r.a r.c) ∨ (k = 2 ∧ r.a ≤ d ∧ d < r.c) ∨ (k = 3 ∧ r.c ≤ d ∧ d < r.a)) then r.m else 0
def vals (L : List Row4) (k d g : Nat) : Int := (L.map fun r => valR r k d g).sum
end Bk

namespace Bk
open PySem PySem.Spec PyProof.Rows L2
/-! ### what is told of a plan, whether it fits or not -/
theorem eqv_ints (ns ms : List Int) : PyData.eqv (.list (ns.map PyData.int)) (.list (ms.map PyData.int)) = decide (ns = ms) := by
  simp only [PyData.eqv]
  exact PySem.W.ked_eqvAll ns ms
theorem range_all (f u : Nat → Int) (m : Nat) : decide ((List.range m).map f = (List.range m).map u) = (List.range m).all fun d => decide (f d = u d) := by
  rw [Bool.eq_iff_iff, decide_eq_true_iff, List.map_inj_left, List.all_eq_true]
  exact ⟨fun h d hd => decide_eq_true (h d hd), fun h d hd => of_decide_eq_true (h d hd)⟩
def rowAt (L : List Row4) (i : Nat) : Row4 := L.getD i ⟨0, 0, 0, 0⟩
theorem rowAt_of {L : List Row4} {i : Nat} {r : Row4} (h : L[i]? = some r) : rowAt L i = r := by
  unfold rowAt
  rw [List.getD_eq_getElem?_getD, h]
  rfl
def headR (r : Row4) : List Int := [(r.a : Int), (r.b : Int), (r.c : Int)]
def risesB (L : List Row4) : Bool := (List.range (L.length - 1)).all fun i => HT.lexLt (headR (rowAt L i)) (headR (rowAt L (i + 1)))
def priceAt (b : Bak) (r : Row4) : Option Int := match b.goods[r.b]? with
  | some g => loafP g r.a r.c
  | none => none
def wantB (b : Bak) (g d : Nat) : Int := match b.goods[g]? with
  | none => 0
  | some gd => wantN gd d
def metM (L : List Row4) (g d : Nat) : Int := (L.map fun r => if r.b = g ∧ r.c = d then r.m else 0).sum
theorem metM_step {zs : List (Addr × Row4)} {i : Nat} {z : Addr × Row4} (h : zs[i]? = some z) (g d : Nat) : metM ((zs.take (i + 1)).map (·.2)) g d = metM ((zs.take i).map (·.2)) g d + if z.2.b = g ∧ z.2.c = d then z.2.m else 0 := by
  unfold metM
  rw [List.take_add_one, h]
  simp
def meetsB (b : Bak) (L : List Row4) : Bool := (List.range b.goods.length).all fun g => (List.range b.lights.length).all fun d => decide (metM L g d = wantB b g d)
def rowsD (m : Nat) (f : Nat → Nat → Int) (gs : List Nat) : List PyData := gs.map fun g => .list (((List.range m).map (f g)).map PyData.int)
theorem eqv_rows (m : Nat) (f u : Nat → Nat → Int) : ∀ gs : List Nat, PyData.eqvAll (rowsD m f gs) (rowsD m u gs) = gs.all fun g => (List.range m).all fun d => decide (f g d = u g d)
  | [] => by simp only [rowsD, List.map_nil, PyData.eqvAll, List.all_nil]
  | g :: r => by
    have ih := eqv_rows m f u r
    unfold rowsD at ih ⊢
    rw [List.map_cons, List.map_cons, PyData.eqvAll, ih, eqv_ints, range_all, List.all_cons]
theorem lay_rows (m : Nat) (f : Nat → Nat → Int) : ∀ gs, PyData.canLayAll0 (rowsD m f gs) = true
  | [] => by simp only [rowsD, List.map, PyData.canLayAll0]
  | n :: r => by
    have := lay_rows m f r
    unfold rowsD at this ⊢
    simp only [List.map_cons, PyData.canLayAll0, PyData.canLay0, lay_ints, this, Bool.and_self]
theorem depth_rows (m : Nat) (f : Nat → Nat → Int) : ∀ gs, PyData.depthAll (rowsD m f gs) ≤ 1
  | [] => by simp only [rowsD, List.map, PyData.depthAll]; omega
  | n :: r => by
    have := depth_rows m f r
    unfold rowsD at this ⊢
    simp only [List.map_cons, PyData.depthAll, PyData.depth, depth_ints]
    omega
theorem shaped_rows (m : Nat) (f : Nat → Nat → Int) (gs : List Nat) : SeqAt.shaped (.list (rowsD m f gs)) = true := by
  have := depth_rows m f gs
  simp only [SeqAt.shaped, PyData.canLay0, lay_rows, PyData.depth, Bool.true_and]
  have h64 : PyData.depthAll (rowsD m f gs) + 1 ≤ 64 := by omega
  exact decide_eq_true h64
theorem dp_rows {K : PySem.W.Frag} {H : Hp} {R : Nat → Addr} {m : Nat} {f : Nat → Nat → Int} : ∀ gs : List Nat, (∀ g ∈ gs, H (R g) = some (.lst (rowM m (f g)))) → DpAll K H (gs.map fun g => V.ref (R g)) (rowsD m f gs)
  | [], _ => .nil
  | g :: r, h => .cons (.lst (SqL.of (by rw [h g (List.mem_cons_self ..)]; unfold rowM; rw [show (List.range m).map (fun d => V.int (f g d)) = ((List.range m).map (f g)).map V.int by rw [List.map_map]; rfl])) (dp_ints _)) (dp_rows r fun g hg => h g (List.mem_cons_of_mem _ hg))
theorem eq_rowsX {K : PySem.W.Frag} {H : Hp} {D1 D2 : Addr} {R1 R2 : Nat → Addr} {n m : Nat} {f u : Nat → Nat → Int} {Q : VK} (t1 : H D1 = some (.lst ((List.range n).map fun d => V.ref (R1 d)))) (r1 : ∀ g, g < n → H (R1 g) = some (.lst (rowM m (f g)))) (t2 : H D2 = some (.lst ((List.range n).map fun d => V.ref (R2 d)))) (r2 : ∀ g, g < n → H (R2 g) = some (.lst (rowM m (u g)))) (q : Q (.bl ((List.range n).all fun g => (List.range m).all fun d => decide (f g d = u g d))) H) : rEqD K (.ref D1) (.ref D2) H Q := by
  refine ⟨_, _, .lst (SqL.of t1) (dp_rows _ fun g hg => r1 g (List.mem_range.mp hg)), .lst (SqL.of t2) (dp_rows _ fun g hg => r2 g (List.mem_range.mp hg)), shaped_rows _ _ _, shaped_rows _ _ _, ?_⟩
  rw [show PyData.eqv (.list (rowsD m f (List.range n))) (.list (rowsD m u (List.range n))) = PyData.eqvAll (rowsD m f (List.range n)) (rowsD m u (List.range n)) by simp only [PyData.eqv], eqv_rows]
  exact q
end Bk

namespace Bk
open PySem PySem.Spec PyProof.Rows L2
/-! ### rows of a plan, of anything -/
/-- whether it is the number of one of so many things -/
def plB (n : Nat) : PyData → Bool
  | .int i => decide (0 ≤ i) && decide (i < (n : Int))
  | _ => false
theorem plB_nat {n : Nat} {d : PyData} (h : plB n d = true) : ∃ i : Nat, d = .int (i : Int) ∧ i < n := by
  cases d with
  | int i =>
    simp only [plB, Bool.and_eq_true, decide_eq_true_eq] at h
    exact ⟨i.toNat, by rw [show ((i.toNat : Nat) : Int) = i by omega], by omega⟩
  | _ => cases h
def posD : PyData → Bool
  | .int i => decide (i ≥ 1)
  | _ => false
theorem posD_int {d : PyData} (h : posD d = true) : ∃ m : Int, d = .int m ∧ 1 ≤ m := by
  cases d with
  | int m => exact ⟨m, rfl, of_decide_eq_true h⟩
  | _ => cases h
/-- whether it is a row of a plan, of so many days and goods -/
def prB (n k : Nat) : PyData → Bool
  | .tuple [a, b, c, m] => (plB n a && (plB k b && plB n c)) && posD m
  | _ => false
structure PRow (n k : Nat) (r : Row4) : Prop where
  a : r.a < n
  b : r.b < k
  c : r.c < n
  m : 1 ≤ r.m
theorem prB_row {n k : Nat} {d : PyData} (h : prB n k d = true) : ∃ r : Row4, d = rowD r ∧ PRow n k r := by
  match d, h with
  | .tuple [a, b, c, m], h =>
    simp only [prB, Bool.and_eq_true] at h
    obtain ⟨⟨h1, h2, h3⟩, h5⟩ := h
    obtain ⟨i, rfl, hi⟩ := plB_nat h1
    obtain ⟨j, rfl, hj⟩ := plB_nat h2
    obtain ⟨l, rfl, hk⟩ := plB_nat h3
    obtain ⟨m, rfl, hm⟩ := posD_int h5
    exact ⟨⟨i, j, l, m⟩, rfl, hi, hj, hk, hm⟩
theorem prB_of {n k : Nat} {r : Row4} (h : PRow n k r) : prB n k (rowD r) = true := by
  have h1 := h.a
  have h2 := h.b
  have h3 := h.c
  have h4 := h.m
  simp only [rowD, prB, plB, posD, Bool.and_eq_true, decide_eq_true_eq]
  omega
theorem prB_rows {n k : Nat} : ∀ {ds : List PyData}, ds.all (prB n k) = true → ∃ L : List Row4, ds = L.map rowD ∧ ∀ r ∈ L, PRow n k r
  | [], _ => ⟨[], rfl, fun r h => by cases h⟩
  | d :: ds, h => by
    rw [List.all_cons, Bool.and_eq_true] at h
    obtain ⟨r, rfl, hr⟩ := prB_row h.1
    obtain ⟨L, rfl, hL⟩ := prB_rows h.2
    exact ⟨r :: L, rfl, fun x hx => by
      rcases List.mem_cons.mp hx with rfl | hx
      · exact hr
      · exact hL x hx⟩
def rowOf : PyData → Row4
  | .tuple [.int a, .int b, .int c, .int m] => ⟨a.toNat, b.toNat, c.toNat, m⟩
  | _ => ⟨0, 0, 0, 0⟩
theorem rowOf_rowD (r : Row4) : rowOf (rowD r) = r := by
  show (⟨((r.a : Nat) : Int).toNat, ((r.b : Nat) : Int).toNat, ((r.c : Nat) : Int).toNat, r.m⟩ : Row4) = r
  rw [Int.toNat_natCast, Int.toNat_natCast, Int.toNat_natCast]
theorem rowOf_map (L : List Row4) : (L.map rowD).map rowOf = L := by
  rw [List.map_map]
  exact (List.map_congr_left fun r _ => rowOf_rowD r).trans (List.map_id L)
def keepsB (b : Bak) (L : List Row4) : Bool := match b.bound with
  | none => true
  | some k => (List.range b.lights.length).all fun d => decide (loadR L d ≤ k)
def fitP (b : Bak) (L : List Row4) : Bool := (risesB L && L.all fun r => (priceAt b r).isSome) && (meetsB b L && keepsB b L)
/-- what is told of anything in a plan's place -/
def fitPB (b : Bak) : PyData → Bool
  | .list ds => ds.all (prB b.lights.length b.goods.length) && fitP b (ds.map rowOf)
  | _ => false
def FewL (d : PyData) : Prop := ∀ ds, d = .list ds → ds.length ≤ 500
def isPB (b : Bak) (d : PyData) : Bool := prB b.lights.length b.goods.length d && (priceAt b (rowOf d)).isSome
end Bk

namespace Bk
open PySem PySem.Spec PyProof.Rows L2
/-! ### the walk is told by the rungs alone; a sorted plan is one list -/
section
variable {ds : List Dgh} {g : Good} {lights F F' : Nat → Int} {M M' : Nat → Nat → Int} {n : Nat}
end
end Bk

namespace Bk
open PySem PySem.Spec PyProof.Rows L2
/-! ### how large a built ladder's rungs can be -/
section
variable {ds : List Dgh} {g : Good} {lights F : Nat → Int} {M : Nat → Nat → Int} {n N : Nat}
theorem ChD.nonneg {e_ d : Nat} {v : Int} (h : ChD ds g lights n M e_ d v) (hl : ∀ b, 0 ≤ lights b) (hd : ∀ d ∈ ds, 0 ≤ d.mix ∧ 0 ≤ d.dough ∧ 0 ≤ d.hold) (W : NonNegW g.days) (hM : ∀ f, f ≤ d → 0 ≤ M e_ f) : 0 ≤ v := by
  rcases h with ⟨b, f, s, h1, h2, h3, h4, rfl⟩ | ⟨_, rfl⟩
  · have a1 := hM f h3
    have a2 := hl b
    have a3 : 0 ≤ s := segP_nonneg (fun k z e => by
      unfold wantD at e
      obtain ⟨w, hw, rfl⟩ := Option.map_eq_some_iff.mp e
      have b1 := wantP_nonneg W hw
      have b2 : 0 ≤ wantN g k * doughP ds e_ b := Int.mul_nonneg (wantN_nonneg W k) (doughP_nonneg (fun d hd' => (hd d hd').2) _ _)
      exact Int.add_nonneg b1 b2) h4
    omega
  · exact hM d (Nat.le_refl _)
theorem Bld.nonneg (h : Bld ds g lights n F M N) (hm : ∀ b, 0 ≤ mixF ds b) (hl : ∀ b, 0 ≤ lights b) (hd : ∀ d ∈ ds, 0 ≤ d.mix ∧ 0 ≤ d.dough ∧ 0 ≤ d.hold) (W : NonNegW g.days) : ∀ j, j ≤ N → 0 ≤ F j ∧ ∀ e, e < n → 0 ≤ M e j := by
  intro j
  induction j using Nat.strongRecOn with
  | ind j ih =>
    intro hj
    cases j with
    | zero => exact ⟨by rw [h.zero]; exact Int.le_refl _, fun e he => by rw [h.mzero e he]; exact hm e⟩
    | succ d =>
      have c : ∀ e v, e < n → ChD ds g lights n M e d v → 0 ≤ v := fun e v he c => c.nonneg hl hd W fun f hf => (ih f (by omega) (by omega)).2 e he
      have h0 : 0 ≤ F (d + 1) := by
        rcases h.fex d (by omega) with ⟨e, v, he, hc, ev⟩ | ⟨hw, ev⟩
        · rw [ev]; exact c e v he hc
        · rw [ev]; exact (ih d (by omega) (by omega)).1
      refine ⟨h0, fun e he => ?_⟩
      rcases h.mex e d he (by omega) with hc | hc
      · exact c e _ he hc
      · rw [hc]
        have := hm e
        omega
theorem mul9 {a b : Int} (h1 : 0 ≤ a) (h2 : a ≤ 1000000000) (h3 : 0 ≤ b) (h4 : b ≤ 1000000000) : a * b ≤ 1000000000000000000 := by
  have := Int.mul_le_mul h2 h4 h3 (by decide)
  omega
theorem want_own_le (hok : ∀ d ∈ g.days, dayB (dayD d) = true) (hds : ∀ d ∈ ds, dghB (dghD d) = true) (hlf : ∀ l, g.life = some l → 0 ≤ l) {e : Nat} {s : Int} (he : e < g.days.length) (h : wantD ds g e e e = some s) : s ≤ 2000000000000000000 := by
  have e1 := wantP_own (g := g) (m := e) (List.getElem?_eq_getElem he) hlf
  have hw := hok _ (List.getElem_mem he)
  have ew : wantN g e = g.days[e].want := by unfold wantN; rw [List.getElem?_eq_getElem he]
  simp only [dayD, dayB, numD, Bool.and_eq_true, decide_eq_true_eq] at hw
  obtain ⟨⟨⟨⟨a1, a2⟩, a3, a4⟩, _⟩, _⟩ := hw
  unfold wantD at h
  rw [e1] at h
  cases h
  have ed : 0 ≤ doughP ds e e ∧ doughP ds e e ≤ 1000000000 := by
    have : doughP ds e e = (dghAt ds e).dough := by
      unfold doughP
      rw [Nat.sub_self]
      show _ + holdS ds e 0 = _
      simp [holdS]
    rw [this]
    unfold dghAt
    rw [List.getD_eq_getElem?_getD]
    cases e2 : ds[e]? with
    | none => exact ⟨Int.le_refl _, by decide⟩
    | some d =>
      have := hds d (List.mem_of_getElem? e2)
      simp only [dghB, dghD, numD, Bool.and_eq_true, decide_eq_true_eq] at this
      exact ⟨this.1.2.1, this.1.2.2⟩
  have m1 := mul9 a1 a2 a3 a4
  have m2 : wantN g e * doughP ds e e ≤ _ := mul9 (by rw [ew]; exact a1) (by rw [ew]; exact a2) ed.1 ed.2
  show g.days[e].want * g.days[e].loaf + wantN g e * doughP ds e e ≤ _
  omega
theorem Bld.upper (h : Bld ds g lights n F M n) (hn : n = g.days.length) (hm : ∀ b, 0 ≤ mixF ds b) (hlf : ∀ l, g.life = some l → 0 ≤ l) {A C : Int} (hA : ∀ e, mixF ds e ≤ A) (hC : ∀ e s, e < n → wantD ds g e e e = some s → lights e + s ≤ C) (hC0 : 0 ≤ C) (hA0 : 0 ≤ A) : ∀ j, j ≤ n → F j ≤ j * (A + C) ∧ ∀ e, e < n → M e j ≤ j * (A + C) + A := by
  have L := h.lad hm
  intro j hj
  have step : ∀ d, d < n → F (d + 1) ≤ F d + (A + C) := fun d hd => by
    have e := wantP_own (g := g) (m := d) (List.getElem?_eq_getElem (by omega)) hlf
    obtain ⟨s, hs⟩ : ∃ s, wantD ds g d d d = some s := by unfold wantD; rw [e]; exact ⟨_, rfl⟩
    have hs1 := segP_add (segP_zero (wantD ds g d d) d) (show wantD ds g d d (d + 0) = some s from hs)
    have c := h.fle d d _ hd hd (.inl ⟨d, d, 0 + s, Nat.le_refl _, hd, Nat.le_refl _, by rw [show d + 1 - d = 0 + 1 by omega]; exact hs1, rfl⟩)
    have c2 := L.up d d hd (by omega)
    have c3 := hA d
    have c4 := hC d s hd hs
    omega
  have hF : ∀ j, j ≤ n → F j ≤ j * (A + C) := fun j => by
    induction j with
    | zero => intro _; rw [h.zero]; simp
    | succ d ih =>
      intro hj
      have := ih (by omega)
      have := step d (by omega)
      have e : ((d + 1 : Nat) : Int) * (A + C) = (d : Int) * (A + C) + (A + C) := by rw [Int.natCast_add, Int.add_mul]; simp
      omega
  refine ⟨hF j hj, fun e he => ?_⟩
  have := L.up e j he hj
  have := hF j hj
  have := hA e
  omega
end
end Bk

namespace Bk
open PySem PySem.Spec PyProof.Rows L2
/-! ### doughs that cost nothing, or as loaves do: the ladder's last rung is the row's last number -/
theorem any_exists (g : Good) (lights : Nat → Int) (c : Nat) : ∀ (n : Nat), n ≤ c → n ≤ g.days.length → (∀ l, g.life = some l → 0 ≤ l) → (∀ b, 0 ≤ lights b) → NonNegW g.days → ∃ ar, IsAny g lights ar c n ∧ ∀ m, m ≤ n → 0 ≤ ar m
  | 0, _, _, _, _, _ => ⟨fun _ => 0, ⟨rfl, fun m h => by omega, fun m h => by omega, fun m h => by omega⟩, fun m _ => Int.le_refl 0⟩
  | n + 1, hc, hn, hl, hp, N => by
    obtain ⟨ar, hR, h0⟩ := any_exists g lights c n (by omega) (by omega) hl hp N
    have lo : ∀ v, ChC ar lights (wantP g) c n v → 0 ≤ v := by
      rintro v ⟨b, f, s, hb, hf, hs, hv⟩
      have a1 := h0 f hf
      have a2 := hp b
      have a3 := segP_nonneg (fun k z e => wantP_nonneg N e) hs
      omega
    obtain ⟨v, hv0, hv1, hv2⟩ : ∃ v, (wantN g n = 0 → v = ar n) ∧ (wantN g n ≠ 0 → ChC ar lights (wantP g) c n v ∧ ∀ u, ChC ar lights (wantP g) c n u → v ≤ u) ∧ 0 ≤ v := by
      by_cases hw : wantN g n = 0
      · exact ⟨ar n, fun _ => rfl, fun z => absurd hw z, h0 n (Nat.le_refl n)⟩
      · have e := wantP_own (g := g) (m := n) (List.getElem?_eq_getElem (by omega)) hl
        have s1 := segP_one (w := wantP g n) (m := n) e
        obtain ⟨v, hv, hmin⟩ := exists_min_int lo ⟨_, n, n, _, by omega, Nat.le_refl n, by rw [show n + 1 - n = 1 by omega]; exact s1, rfl⟩
        exact ⟨v, fun z => absurd z hw, fun _ => ⟨hv, hmin⟩, lo v hv⟩
    obtain ⟨ar', e, el⟩ : ∃ ar' : Nat → Int, (∀ f, f ≤ n → ar' f = ar f) ∧ ar' (n + 1) = v := ⟨fun k => if k = n + 1 then v else ar k, fun f hf => if_neg (by omega), if_pos rfl⟩
    refine ⟨ar', ⟨by rw [e 0 (by omega)]; exact hR.zero, fun m hm hw => ?_, fun m hm hw => ?_, fun m hm hw u hu => ?_⟩, fun m hm => ?_⟩
    · by_cases hmn : m = n
      · subst hmn
        rw [el, e m (Nat.le_refl m)]
        exact hv0 hw
      · rw [e (m + 1) (by omega), e m (by omega)]
        exact hR.unw m (by omega) hw
    · by_cases hmn : m = n
      · subst hmn
        rw [el]
        exact (hv1 hw).1.congr fun f hf => (e f hf).symm
      · rw [e (m + 1) (by omega)]
        exact (hR.some m (by omega) hw).congr fun f hf => (e f (by omega)).symm
    · by_cases hmn : m = n
      · subst hmn
        rw [el]
        exact (hv1 hw).2 u (hu.congr fun f hf => e f hf)
      · rw [e (m + 1) (by omega)]
        exact hR.least m (by omega) hw u (hu.congr fun f hf => e f (by omega))
    · by_cases hmn : m = n + 1
      · rw [hmn, el]
        exact hv2
      · rw [e m (by omega)]
        exact h0 m (by omega)
theorem segP_le {w w' : Nat → Option Int} {f : Nat} : ∀ {m : Nat} {s : Int}, (∀ k z, f ≤ k → k < f + m → w k = some z → ∃ z', w' k = some z' ∧ z' ≤ z) → segP w f m = some s → ∃ s', segP w' f m = some s' ∧ s' ≤ s
  | 0, s, _, h => ⟨s, h, Int.le_refl _⟩
  | m + 1, s, hw, h => by
    obtain ⟨x, y, h1, h2, h3⟩ := segP_succ h
    obtain ⟨x', g1, g2⟩ := segP_le (fun k z a b c => hw k z a (by omega) c) h1
    obtain ⟨y', g3, g4⟩ := hw (f + m) y (by omega) (by omega) h2
    exact ⟨x' + y', segP_add g1 g3, by omega⟩
section
variable {ds : List Dgh} {g g' : Good} {lights ar F : Nat → Int} {M : Nat → Nat → Int} {n : Nat}
/-- no mixing is paid for, and a dough of the day itself is the cheapest -/
theorem any_bld (hA : IsAny g' lights ar n n) (hn : n ≤ g.days.length) (hn' : n ≤ g'.days.length) (hl : ∀ b, 0 ≤ lights b) (hmix : ∀ e, mixF ds e = 0) (hw : ∀ k, wantN g' k = wantN g k) (hp : ∀ b k, b < n → k < n → wantP g' b k = wantD ds g b b k) (hm : ∀ e b, e ≤ b → b < n → doughP ds b b ≤ doughP ds e b) (N : NonNegW g.days) : Bld ds g lights n ar (fun _ => ar) n := by
  have le : ∀ d e v, d < n → e < n → ChD ds g lights n (fun _ => ar) e d v → ar (d + 1) ≤ v := fun d e v hd he c => by
    rcases c with ⟨b, f, s, h1, h2, h3, h4, rfl⟩ | ⟨h1, rfl⟩
    · obtain ⟨s', g1, g2⟩ := segP_le (w' := wantP g' b) (fun k z a b' c => by
        rw [hp b k h2 (by omega)]
        unfold wantD at c ⊢
        obtain ⟨w, hw1, rfl⟩ := Option.map_eq_some_iff.mp c
        rw [hw1]
        refine ⟨_, rfl, ?_⟩
        have := Int.mul_le_mul_of_nonneg_left (hm e b h1 h2) (wantN_nonneg N k)
        show w + wantN g k * doughP ds b b ≤ w + wantN g k * doughP ds e b
        omega) h4
      have := any_lets hA hn' hl h2 (d + 1 - f) s' (by omega) g1
      rw [show f + (d + 1 - f) = d + 1 by omega] at this
      show ar (d + 1) ≤ ar f + lights b + s
      omega
    · rw [hA.unw d hd (by rw [hw]; exact h1)]
      exact Int.le_refl _
  have ex : ∀ d, d < n → (∃ e v, e < n ∧ ChD ds g lights n (fun _ => ar) e d v ∧ ar (d + 1) = v) ∨ (wantN g d = 0 ∧ ar (d + 1) = ar d) := fun d hd => by
    by_cases z : wantN g d = 0
    · exact .inr ⟨z, hA.unw d hd (by rw [hw]; exact z)⟩
    · obtain ⟨b, f, s, h1, h2, h3, h4⟩ := hA.some d hd (by rw [hw]; exact z)
      refine .inl ⟨b, _, h1, .inl ⟨b, f, s, Nat.le_refl b, h1, h2, ?_, rfl⟩, h4⟩
      obtain ⟨s', g1, g2⟩ := segP_le (w' := wantD ds g b b) (fun k z a b' c => ⟨z, by rw [← hp b k h1 (by omega)]; exact c, Int.le_refl _⟩) h3
      obtain ⟨s2, g3, g4⟩ := segP_le (w' := wantP g' b) (fun k z a b' c => ⟨z, by rw [hp b k h1 (by omega)]; exact c, Int.le_refl _⟩) g1
      rw [h3] at g3
      cases g3
      rw [g1]
      congr 1
      omega
  refine ⟨hA.zero, fun e _ => by rw [hmix]; exact hA.zero, ex, le, fun d hd z => ?_, fun e d he hd => .inr (by rw [hmix, Int.add_zero]), fun e d v he hd c => le d e v hd he c, fun e d he hd => by rw [hmix, Int.add_zero]; exact Int.le_refl _⟩
  rw [hA.unw d hd (by rw [hw]; exact z)]
  exact Int.le_refl _
/-- so the ladder's last rung is the last number of the other bakery's row -/
theorem bld_row {row : Nat → Int} (hB : Bld ds g lights n F M n) (hR : IsRow g' lights row n) (hn : n ≤ g.days.length) (hn' : n ≤ g'.days.length) (hl : ∀ b, 0 ≤ lights b) (hmix : ∀ e, mixF ds e = 0) (hw : ∀ k, wantN g' k = wantN g k) (hp : ∀ b k, b < n → k < n → wantP g' b k = wantD ds g b b k) (hm : ∀ e b, e ≤ b → b < n → doughP ds b b ≤ doughP ds e b) (N : NonNegW g.days) (N' : NonNegW g'.days) (hlf' : ∀ l, g'.life = some l → 0 ≤ l) : F n = row n := by
  obtain ⟨ar, hA, _⟩ := any_exists g' lights n n (Nat.le_refl n) hn' hlf' hl N'
  have h1 := (hB.ext (any_bld hA hn hn' hl hmix hw hp hm N) n (Nat.le_refl n)).1
  rw [h1]
  exact any_eq_row hA hR hn' hl N' hlf'
end
/-! ### doughs of nothing -/
def zeroD (n : Nat) : List Dgh := List.replicate n ⟨0, 0, 0⟩
theorem zeroD_at (n i : Nat) : dghAt (zeroD n) i = ⟨0, 0, 0⟩ := by
  unfold dghAt zeroD
  rw [List.getD_eq_getElem?_getD, List.getElem?_replicate]
  split <;> rfl
theorem zeroD_mix (n e : Nat) : mixF (zeroD n) e = 0 := by
  unfold mixF
  rw [zeroD_at]
theorem zeroD_dough (n a b : Nat) : doughP (zeroD n) a b = 0 := by
  unfold doughP
  rw [zeroD_at]
  show (0 : Int) + holdS (zeroD n) a (b - a) = 0
  rw [Int.zero_add]
  unfold holdS zeroD
  have : ∀ l : List Dgh, (∀ d ∈ l, d = ⟨0, 0, 0⟩) → (l.map Dgh.hold).sum = 0 := fun l => by
    induction l with
    | nil => exact fun _ => rfl
    | cons d l ih => exact fun h => by rw [List.map_cons, List.sum_cons, ih fun x hx => h x (List.mem_cons_of_mem _ hx), h d List.mem_cons_self]; rfl
  exact this _ fun d hd => List.eq_of_mem_replicate (List.mem_of_mem_drop (List.mem_of_mem_take hd))
theorem zeroD_nn {n : Nat} : ∀ d ∈ zeroD n, 0 ≤ d.mix ∧ 0 ≤ d.dough ∧ 0 ≤ d.hold := fun d hd => by
  rw [List.eq_of_mem_replicate hd]
  exact ⟨Int.le_refl _, Int.le_refl _, Int.le_refl _⟩
theorem wantD_zero (n : Nat) (g : Good) (e b k : Nat) : wantD (zeroD n) g e b k = wantP g b k := by
  unfold wantD
  rw [zeroD_dough]
  cases wantP g b k with
  | none => rfl
  | some z =>
    show some (z + wantN g k * 0) = some z
    rw [Int.mul_zero, Int.add_zero]
section
variable {g : Good} {ls : List Int} {row : Nat → Int} {n : Nat}
theorem zero_bld (hn : n ≤ g.days.length) (hl : ∀ b, 0 ≤ rowF ls b) (N : NonNegW g.days) (hlf : ∀ l, g.life = some l → 0 ≤ l) (hR : IsRow g (rowF ls) row n) : ∃ ar, Bld (zeroD n) g (rowF ls) n ar (fun _ => ar) n ∧ ar n = row n := by
  obtain ⟨ar, hA, _⟩ := any_exists g (rowF ls) n n (Nat.le_refl n) hn hlf hl N
  exact ⟨ar, any_bld hA hn hn hl (zeroD_mix n) (fun _ => rfl) (fun b k _ _ => (wantD_zero n g b b k).symm) (fun e b _ _ => by rw [zeroD_dough, zeroD_dough]; exact Int.le_refl _) N, any_eq_row hA hR hn hl N hlf⟩
/-- no plan is below the row -/
theorem row_le_plan (hn : n = g.days.length) (hl : ∀ b, 0 ≤ rowF ls b) (N : NonNegW g.days) (hlf : ∀ l, g.life = some l → 0 ≤ l) (hR : IsRow g (rowF ls) row n) {L : List Row4} (hk : ∀ r ∈ L, KeyD g n r.k) (hpos : ∀ r ∈ L, 0 < r.m) (hmet : ∀ k, k < n → metC L k = wantN g k) : row n ≤ costD (zeroD n) ls g n L := by
  obtain ⟨ar, hB, e⟩ := zero_bld (by omega) hl N hlf hR
  rw [← e]
  exact (hB.lad fun b => by rw [zeroD_mix]; exact Int.le_refl _).le_plan hn (by unfold zeroD; rw [List.length_replicate]) hl zeroD_nn N hlf hk hpos hmet
/-- some plan costs what the row says -/
theorem row_is_plan (hn : n = g.days.length) (hl : ∀ b, 0 ≤ rowF ls b) (N : NonNegW g.days) (hlf : ∀ l, g.life = some l → 0 ≤ l) (hR : IsRow g (rowF ls) row n) : ∃ L : List Row4, (∀ r ∈ L, KeyD g n r.k) ∧ (∀ r ∈ L, 0 < r.m) ∧ (∀ k, k < n → metC L k = wantN g k) ∧ costD (zeroD n) ls g n L = row n := by
  obtain ⟨ar, hB, e⟩ := zero_bld (by omega) hl N hlf hR
  have hz : ∀ b, 0 ≤ mixF (zeroD n) b := fun b => by rw [zeroD_mix]; exact Int.le_refl _
  have hW := (walk_ok hB hz hl n n none (Nat.le_refl _) (Nat.le_refl _) (fun e z => nomatch z)).1
  refine ⟨_, fun r hr => ?_, fun r hr => ?_, fun k hk => ?_, (walk_cost hB hn (by unfold zeroD; rw [List.length_replicate]) hl zeroD_nn N hlf (List.Perm.refl _)).trans e⟩
  · obtain ⟨a1, a2, a3, a4, _⟩ := hW.rows.1 r hr
    exact ⟨a1, a2, a3, a4⟩
  · obtain ⟨a1, a2, a3, a4, a5, a6, _⟩ := hW.rows.1 r hr
    have := wantN_nonneg N r.c
    omega
  · rw [hW.met, if_pos hk]
end
end Bk

namespace Bk
open PySem PySem.Spec PyProof.Rows L2
/-! ### doughs that are held never: loaves that are dearer -/
def heldD (ds : List Dgh) : List Dgh := ds.map fun d => ⟨0, d.dough, 1000000000⟩
def moreD (ds : List Dgh) : List Dgh := ds.map fun d => ⟨d.mix, d.dough + 3, d.hold⟩
theorem dghAt_map {f : Dgh → Dgh} {ds : List Dgh} {i : Nat} (h : i < ds.length) : dghAt (ds.map f) i = f (dghAt ds i) := by
  rw [dghAt_of (d := f ds[i]) (by rw [List.getElem?_map, List.getElem?_eq_getElem h]; rfl), dghAt_of (List.getElem?_eq_getElem h)]
theorem held_mix (ds : List Dgh) (e : Nat) : mixF (heldD ds) e = 0 := by
  unfold mixF dghAt heldD
  rw [List.getD_eq_getElem?_getD, List.getElem?_map]
  cases ds[e]? <;> rfl
theorem holdS_zero (ds : List Dgh) (r : Nat) : holdS ds r 0 = 0 := by simp [holdS]
theorem doughP_own (ds : List Dgh) (b : Nat) : doughP ds b b = (dghAt ds b).dough := by
  unfold doughP
  rw [Nat.sub_self, holdS_zero, Int.add_zero]
theorem held_hold {ds : List Dgh} : ∀ {r k : Nat}, r + k ≤ ds.length → holdS (heldD ds) r k = (k : Int) * 1000000000
  | r, 0, _ => by rw [holdS_zero]; rfl
  | r, k + 1, h => by
    rw [holdS_succ (by unfold heldD; rw [List.length_map]; omega), held_hold (by omega)]
    unfold heldD
    rw [dghAt_map (by omega)]
    show (k : Int) * 1000000000 + 1000000000 = ((k + 1 : Nat) : Int) * 1000000000
    omega
theorem held_mono {ds : List Dgh} (hd : ∀ d ∈ ds, 0 ≤ d.dough ∧ d.dough ≤ 1000000000) {e b : Nat} (h : e ≤ b) (hb : b < ds.length) : doughP (heldD ds) b b ≤ doughP (heldD ds) e b := by
  have at' : ∀ i, i < ds.length → 0 ≤ (dghAt (heldD ds) i).dough ∧ (dghAt (heldD ds) i).dough ≤ 1000000000 := fun i hi => by
    unfold heldD
    rw [dghAt_map hi, dghAt_of (List.getElem?_eq_getElem hi)]
    exact hd (ds[i]) (List.getElem_mem hi)
  by_cases z : e = b
  · rw [z]
    exact Int.le_refl _
  · rw [doughP_own]
    unfold doughP
    rw [held_hold (by omega)]
    obtain ⟨a2, a3⟩ := at' b hb
    obtain ⟨b2, b3⟩ := at' e (by omega)
    omega
theorem wantP_dear (g : Good) (E : Nat → Int) (b k : Nat) : wantP (addE g E) b k = (wantP g b k).map (· + wantN g k * E b) := by
  unfold wantP wantN
  rw [show (addE g E).days[k]? = (g.days[k]?).map (dearD E k) by unfold addE; dsimp only; rw [List.getElem?_mapIdx]]
  cases g.days[k]? with
  | none => rfl
  | some d =>
    show (if d.want = 0 then some 0 else (loafP (addE g E) b k).map (d.want * ·)) = Option.map (fun x => x + d.want * E b) (if d.want = 0 then some 0 else (loafP g b k).map (d.want * ·))
    by_cases h : d.want = 0
    · rw [if_pos h, if_pos h, h]
      show some (0 : Int) = some (0 + 0 * E b)
      congr 1
      omega
    · rw [if_neg h, if_neg h, loafP_dear]
      cases loafP g b k with
      | none => rfl
      | some p =>
        show some (d.want * (p + E b)) = some (d.want * p + d.want * E b)
        rw [Int.mul_add]
theorem held_row {ds : List Dgh} {g : Good} {lights F row : Nat → Int} {M : Nat → Nat → Int} {n : Nat} (hB : Bld (heldD ds) g lights n F M n) (hR : IsRow (addE g fun b => (dghAt ds b).dough) lights row n) (hn : n = g.days.length) (hdl : ds.length = n) (hl : ∀ b, 0 ≤ lights b) (hd : ∀ d ∈ ds, 0 ≤ d.dough ∧ d.dough ≤ 1000000000) (N : NonNegW g.days) (hlf : ∀ l, g.life = some l → 0 ≤ l) : F n = row n := by
  have hE : ∀ b, 0 ≤ (dghAt ds b).dough := fun b => by
    unfold dghAt
    rw [List.getD_eq_getElem?_getD]
    cases e : ds[b]? with
    | none => exact Int.le_refl _
    | some d => exact (hd d (List.mem_of_getElem? e)).1
  refine bld_row hB hR (by omega) (by show n ≤ (addE g _).days.length; unfold addE; dsimp only; rw [List.length_mapIdx]; omega) hl (held_mix ds) (fun k => wantN_dear g _ k) (fun b k hb hk => ?_) (fun e b h hb => held_mono hd h (by omega)) N (nonNeg_dear N hE) hlf
  rw [wantP_dear]
  unfold wantD
  rw [doughP_own]
  have : (dghAt (heldD ds) b).dough = (dghAt ds b).dough := by
    unfold heldD
    rw [dghAt_map (by omega)]
  rw [this]
/-! ### doughs that are dearer by three -/
theorem segP_shift {w w' : Nat → Option Int} {c : Nat → Int} {f : Nat} : ∀ {m : Nat} {s : Int}, (∀ k z, f ≤ k → k < f + m → w k = some z → w' k = some (z + c k)) → segP w f m = some s → segP w' f m = some (s + (sumN c (f + m) - sumN c f))
  | 0, s, _, h => by
    rw [segP_zero] at h ⊢
    cases h
    congr 1
    show (0 : Int) = 0 + (sumN c (f + 0) - sumN c f)
    rw [Nat.add_zero]
    omega
  | m + 1, s, hw, h => by
    obtain ⟨x, y, h1, h2, h3⟩ := segP_succ h
    have g1 := segP_shift (fun k z a b e => hw k z a (by omega) e) h1
    have g2 := hw (f + m) y (by omega) (by omega) h2
    rw [segP_add g1 g2]
    congr 1
    have : sumN c (f + (m + 1)) = sumN c (f + m) + c (f + m) := rfl
    omega
theorem more_dough {ds : List Dgh} {a b : Nat} (h : a < ds.length) : doughP (moreD ds) a b = doughP ds a b + 3 := by
  unfold doughP
  have e1 : (dghAt (moreD ds) a).dough = (dghAt ds a).dough + 3 := by
    unfold moreD
    rw [dghAt_map h]
  have e2 : holdS (moreD ds) a (b - a) = holdS ds a (b - a) := by
    unfold holdS moreD
    congr 1
    rw [← List.map_drop, ← List.map_take, List.map_map]
    rfl
  rw [e1, e2]
  omega
theorem more_mix (ds : List Dgh) (e : Nat) : mixF (moreD ds) e = mixF ds e := by
  unfold mixF dghAt moreD
  rw [List.getD_eq_getElem?_getD, List.getElem?_map, List.getD_eq_getElem?_getD]
  cases ds[e]? <;> rfl
theorem more_bld {ds : List Dgh} {g : Good} {lights F : Nat → Int} {M : Nat → Nat → Int} {n : Nat} (hB : Bld ds g lights n F M n) (hdl : ds.length = n) : Bld (moreD ds) g lights n (fun j => F j + 3 * sumN (wantN g) j) (fun e j => M e j + 3 * sumN (wantN g) j) n := by
  have W1 : ∀ d, sumN (wantN g) (d + 1) = sumN (wantN g) d + wantN g d := fun _ => rfl
  have S3 : ∀ j, sumN (fun k => wantN g k * 3) j = 3 * sumN (wantN g) j := fun j => by
    induction j with
    | zero => rfl
    | succ j ih =>
      show sumN (fun k => wantN g k * 3) j + wantN g j * 3 = 3 * (sumN (wantN g) j + wantN g j)
      rw [ih, Int.mul_add, Int.mul_comm (wantN g j) 3]
  have S3' : ∀ j, sumN (fun k => wantN g k * (-3)) j = -(3 * sumN (wantN g) j) := fun j => by
    induction j with
    | zero => rfl
    | succ j ih =>
      show sumN (fun k => wantN g k * (-3)) j + wantN g j * (-3) = -(3 * (sumN (wantN g) j + wantN g j))
      rw [ih]
      omega
  have wd : ∀ {e b k z}, e < n → wantD ds g e b k = some z → wantD (moreD ds) g e b k = some (z + wantN g k * 3) := fun {e b k z} he h => by
    unfold wantD at h ⊢
    obtain ⟨w, hw, rfl⟩ := Option.map_eq_some_iff.mp h
    rw [hw, more_dough (by omega)]
    show some (w + wantN g k * (doughP ds e b + 3)) = some (w + wantN g k * doughP ds e b + wantN g k * 3)
    rw [Int.mul_add, Int.add_assoc]
  have wd' : ∀ {e b k z}, e < n → wantD (moreD ds) g e b k = some z → wantD ds g e b k = some (z + wantN g k * (-3)) := fun {e b k z} he h => by
    unfold wantD at h ⊢
    obtain ⟨w, hw, rfl⟩ := Option.map_eq_some_iff.mp h
    rw [hw, more_dough (by omega)]
    show some (w + wantN g k * doughP ds e b) = some (w + wantN g k * (doughP ds e b + 3) + wantN g k * (-3))
    rw [Int.mul_add]
    congr 1
    omega
  have up : ∀ {e d v}, e < n → ChD ds g lights n M e d v → ChD (moreD ds) g lights n (fun e j => M e j + 3 * sumN (wantN g) j) e d (v + 3 * sumN (wantN g) (d + 1)) := fun {e d v} he c => by
    rcases c with ⟨b, f, s, h1, h2, h3, h4, rfl⟩ | ⟨h1, rfl⟩
    · have := segP_shift (w' := wantD (moreD ds) g e b) (c := fun k => wantN g k * 3) (fun k z _ _ h => wd he h) h4
      refine .inl ⟨b, f, _, h1, h2, h3, this, ?_⟩
      rw [S3, S3, show f + (d + 1 - f) = d + 1 by omega]
      show _ = M e f + 3 * sumN (wantN g) f + lights b + _
      omega
    · refine .inr ⟨h1, ?_⟩
      have := W1 d
      rw [h1] at this
      show _ = M e d + 3 * sumN (wantN g) d
      omega
  have down : ∀ {e d v}, e < n → ChD (moreD ds) g lights n (fun e j => M e j + 3 * sumN (wantN g) j) e d v → ChD ds g lights n M e d (v - 3 * sumN (wantN g) (d + 1)) := fun {e d v} he c => by
    rcases c with ⟨b, f, s, h1, h2, h3, h4, rfl⟩ | ⟨h1, rfl⟩
    · have := segP_shift (w' := wantD ds g e b) (c := fun k => wantN g k * (-3)) (fun k z _ _ h => wd' he h) h4
      refine .inl ⟨b, f, _, h1, h2, h3, this, ?_⟩
      rw [S3', S3', show f + (d + 1 - f) = d + 1 by omega]
      show M e f + 3 * sumN (wantN g) f + lights b + s - _ = _
      omega
    · refine .inr ⟨h1, ?_⟩
      have := W1 d
      rw [h1] at this
      show M e d + 3 * sumN (wantN g) d - _ = M e d
      omega
  refine ⟨?_, fun e he => ?_, fun d hd => ?_, fun d e v hd he c => ?_, fun d hd hw => ?_, fun e d he hd => ?_, fun e d v he hd c => ?_, fun e d he hd => ?_⟩
  · show F 0 + 3 * 0 = 0
    rw [hB.zero]
    rfl
  · show M e 0 + 3 * 0 = _
    rw [hB.mzero e he, more_mix]
    omega
  · rcases hB.fex d hd with ⟨e, v, he, c, ev⟩ | ⟨hw, ev⟩
    · exact .inl ⟨e, _, he, up he c, by show F (d + 1) + _ = _; rw [ev]⟩
    · refine .inr ⟨hw, ?_⟩
      have := W1 d
      rw [hw] at this
      show F (d + 1) + _ = F d + _
      omega
  · have := hB.fle d e _ hd he (down he c)
    show F (d + 1) + _ ≤ v
    omega
  · have := hB.fun0 d hd hw
    have := W1 d
    rw [hw] at this
    show F (d + 1) + _ ≤ F d + _
    omega
  · rcases hB.mex e d he hd with c | c
    · exact .inl (up he c)
    · refine .inr ?_
      rw [more_mix]
      show M e (d + 1) + _ = F (d + 1) + _ + _
      omega
  · have := hB.mle e d _ he hd (down he c)
    show M e (d + 1) + _ ≤ v
    omega
  · have := hB.mup e d he hd
    rw [more_mix]
    show M e (d + 1) + _ ≤ F (d + 1) + _ + _
    omega
end Bk

namespace Bk
open PySem PySem.Spec PyProof.Rows L2
/-! ### one price for all loaves: known costs -/
theorem IsRow.cut {g : Good} {lights row : Nat → Int} {n m : Nat} (h : IsRow g lights row n) (hm : m ≤ n) : IsRow g lights row m := ⟨h.zero, fun k hk => h.some k (by omega), fun k hk => h.least k (by omega)⟩
/-- the light of a wanted day, else nothing -/
def litW (g : Good) (L : Nat → Int) (k : Nat) : Int := if wantN g k = 0 then 0 else L k
/-! ### the told plan -/
/-! ### the three families -/
def famG (ws : List Int) (c : Int) (f l : Option Int) : Good := ⟨ws.map fun w => ⟨w, c, 0, f⟩, l⟩
theorem sumO_nones {l : List (Option Int)} (h : none ∈ l) : sumO l = none := by
  induction l with
  | nil => cases h
  | cons o r ih =>
    cases o with
    | none => rfl
    | some x =>
      show (sumO r).map (x + ·) = none
      rw [ih (by rcases List.mem_cons.mp h with e | e; exact absurd e (by simp); exact e)]
      rfl
/-- which days may bake for which, by the way -/
def May (way : Nat) (b k : Nat) : Prop := way = 0 ∨ way = 1 ∧ b ≤ k ∨ way = 2 ∧ b = k
def famF (way : Nat) : Option Int := if way = 0 then some 0 else none
def famL (way : Nat) : Option Int := if way = 2 then some 0 else none
/-- what the law's own row holds at m -/
structure KRow (way : Nat) (ws ls : List Int) (c : Int) (m : Nat) (v : Int) : Prop where
  none : way < 2 → (∀ k, k < m → rowF ws k = 0) → v = 0
  some : way < 2 → ∀ k0, k0 < m → rowF ws k0 ≠ 0 → (∀ k, k < k0 → rowF ws k = 0) → ∃ b, b < m ∧ (way = 1 → b ≤ k0) ∧ (∀ b', b' < m → (way = 1 → b' ≤ k0) → rowF ls b ≤ rowF ls b') ∧ v = c * sumN (rowF ws) m + rowF ls b
  each : way = 2 → v = c * sumN (rowF ws) m + sumN (fun k => if rowF ws k = 0 then 0 else rowF ls k) m
/-- the wanted days among the first ones -/
def wantK (ws : List Int) (i : Nat) : List Nat := (List.range i).filter fun k => decide (0 < rowF ws k)
def natK (n : Nat) : V := .int (n : Int)
end Bk

namespace Bk
open PySem PySem.Spec PyProof.Rows L2
/-! ### free lights, nothing kept and nothing fined: the mixing alone -/
def freshD (d : Day) : Day := ⟨d.want, d.loaf, d.keep, none⟩
def freeG (g : Good) : Good := ⟨g.days.map freshD, some 0⟩
def aloneG (g : Good) (ds : List Dgh) : Good := ⟨g.days.mapIdx fun i d => ⟨d.want, (dghAt ds i).dough, (dghAt ds i).hold, none⟩, none⟩
def loafN (g : Good) (k : Nat) : Int := match g.days[k]? with
  | none => 0
  | some d => d.loaf
section
variable {g : Good} {ds : List Dgh} {n : Nat}
theorem free_len : (freeG g).days.length = g.days.length := by unfold freeG; dsimp only; rw [List.length_map]
theorem alone_len : (aloneG g ds).days.length = g.days.length := by unfold aloneG; dsimp only; rw [List.length_mapIdx]
theorem free_at (k : Nat) : (freeG g).days[k]? = (g.days[k]?).map freshD := by unfold freeG; dsimp only; rw [List.getElem?_map]
theorem alone_at (k : Nat) : (aloneG g ds).days[k]? = (g.days[k]?).map fun d => ⟨d.want, (dghAt ds k).dough, (dghAt ds k).hold, none⟩ := by unfold aloneG; dsimp only; rw [List.getElem?_mapIdx]
theorem free_want (k : Nat) : wantN (freeG g) k = wantN g k := by
  unfold wantN
  rw [free_at]
  cases g.days[k]? <;> rfl
theorem alone_want (k : Nat) : wantN (aloneG g ds) k = wantN g k := by
  unfold wantN
  rw [alone_at]
  cases g.days[k]? <;> rfl
theorem fines_none {l : List Day} (h : ∀ d ∈ l, d.fine = none) {i j : Nat} (hij : i < j) (hj : i < l.length) : finesL l i j = none := by
  unfold finesL
  refine sumO_nones ?_
  rw [List.mem_map]
  have h1 : ((l.drop i).take (j - i))[0]? = some l[i] := by
    rw [List.getElem?_take_of_lt (by omega), List.getElem?_drop, Nat.add_zero, List.getElem?_eq_getElem hj]
  exact ⟨l[i], List.mem_of_getElem? h1, h _ (List.getElem_mem hj)⟩
theorem free_loaf {b c : Nat} {p : Int} (h : loafP (freeG g) b c = some p) (hc : c < g.days.length) : b = c ∧ p = loafN g c := by
  unfold loafP at h
  rw [free_at] at h
  unfold loafN
  cases hb : g.days[b]? with
  | none => rw [hb] at h; cases h
  | some d =>
    rw [hb] at h
    have h : (if c < b then (finesL (freeG g).days c b).map (d.loaf + ·) else if (0 : Int) < (c : Int) - (b : Int) then none else some (d.loaf + keepsL (freeG g).days b c)) = some p := h
    by_cases hcb : c < b
    · rw [if_pos hcb, fines_none (fun d hd => by
        obtain ⟨x, _, rfl⟩ := List.mem_map.mp hd
        rfl) hcb (by rw [free_len]; exact hc)] at h
      cases h
    · rw [if_neg hcb] at h
      by_cases hbc : (0 : Int) < (c : Int) - (b : Int)
      · rw [if_pos hbc] at h
        cases h
      · rw [if_neg hbc] at h
        have e : b = c := by omega
        subst e
        rw [keepsL_back (Nat.le_refl _)] at h
        rw [hb]
        exact ⟨rfl, by show p = d.loaf; have := Option.some.inj h; omega⟩
theorem free_own {c : Nat} (hc : c < g.days.length) : loafP (freeG g) c c = some (loafN g c) := by
  unfold loafP loafN
  rw [free_at, List.getElem?_eq_getElem hc]
  show (if c < c then _ else if (0 : Int) < (c : Int) - (c : Int) then none else some (g.days[c].loaf + keepsL (freeG g).days c c)) = some g.days[c].loaf
  rw [if_neg (Nat.lt_irrefl c), if_neg (by omega), keepsL_back (Nat.le_refl _), Int.add_zero]
theorem alone_keeps (hdl : ds.length = g.days.length) (b k : Nat) : keepsL (aloneG g ds).days b (b + k) = holdS ds b k := by
  unfold keepsL holdS
  rw [show b + k - b = k by omega]
  congr 1
  refine List.ext_getElem? fun i => ?_
  rw [List.getElem?_map, List.getElem?_map]
  by_cases hi : i < k
  · rw [List.getElem?_take_of_lt hi, List.getElem?_take_of_lt hi, List.getElem?_drop, List.getElem?_drop, alone_at]
    by_cases hb : b + i < g.days.length
    · rw [List.getElem?_eq_getElem hb, dghAt_of (List.getElem?_eq_getElem (by omega)), List.getElem?_eq_getElem (by omega)]
      rfl
    · rw [List.getElem?_eq_none (by omega), List.getElem?_eq_none (by omega)]
      rfl
  · rw [List.getElem?_eq_none (by rw [List.length_take]; omega), List.getElem?_eq_none (by rw [List.length_take]; omega)]
    rfl
theorem alone_loaf (hdl : ds.length = g.days.length) {b c : Nat} {p : Int} (h : loafP (aloneG g ds) b c = some p) (hc : c < g.days.length) : b ≤ c ∧ p = doughP ds b c := by
  unfold loafP at h
  rw [alone_at] at h
  cases hb : g.days[b]? with
  | none => rw [hb] at h; cases h
  | some d =>
    rw [hb] at h
    have h : (if c < b then (finesL (aloneG g ds).days c b).map ((dghAt ds b).dough + ·) else some ((dghAt ds b).dough + keepsL (aloneG g ds).days b c)) = some p := h
    by_cases hcb : c < b
    · rw [if_pos hcb, fines_none (fun d hd => by
        unfold aloneG at hd
        obtain ⟨i, hi⟩ := List.mem_iff_getElem?.mp hd
        rw [List.getElem?_mapIdx] at hi
        obtain ⟨x, _, rfl⟩ := Option.map_eq_some_iff.mp hi
        rfl) hcb (by rw [alone_len]; exact hc)] at h
      cases h
    · rw [if_neg hcb] at h
      have e := alone_keeps hdl b (c - b)
      rw [show b + (c - b) = c by omega] at e
      rw [e] at h
      exact ⟨by omega, (Option.some.inj h).symm⟩
theorem alone_own (hdl : ds.length = g.days.length) {b c : Nat} (hb : b ≤ c) (hc : c < g.days.length) : loafP (aloneG g ds) b c = some (doughP ds b c) := by
  unfold loafP
  rw [alone_at, List.getElem?_eq_getElem (by omega)]
  show (if c < b then _ else some ((dghAt ds b).dough + keepsL (aloneG g ds).days b c)) = _
  rw [if_neg (by omega)]
  have e := alone_keeps hdl b (c - b)
  rw [show b + (c - b) = c by omega] at e
  rw [e]
  rfl
theorem litR_nought {f : Nat → Int} (h : ∀ d, f d = 0) (n : Nat) (l : List Nat) : litR f n l = 0 := by
  unfold litR litSum
  exact sumN_zero n fun k _ => by
    dsimp only
    split
    · exact h k
    · rfl
theorem litR_fun {f f' : Nat → Int} (h : ∀ d, f d = f' d) (n : Nat) (l : List Nat) : litR f n l = litR f' n l := by rw [show f = f' from funext h]
theorem mixes_row (ds : List Dgh) (d : Nat) : rowF (ds.map Dgh.mix) d = mixF ds d := by
  unfold rowF mixF dghAt
  rw [List.getD_eq_getElem?_getD, List.getElem?_map, List.getD_eq_getElem?_getD]
  cases ds[d]? <;> rfl
theorem metC_map {L : List Row4} {h : Row4 → Row4} (hc : ∀ r, (h r).c = r.c) (hm : ∀ r, (h r).m = r.m) (k : Nat) : metC (L.map h) k = metC L k := by
  unfold metC
  rw [List.map_map]
  congr 1
  refine List.map_congr_left fun r _ => ?_
  show (if (h r).c = k then (h r).m else 0) = _
  rw [hc, hm]
theorem sumR_add {f f1 f2 : K3 → Int} : ∀ {L : List Row4}, (∀ r ∈ L, f r.k = f1 r.k + f2 r.k) → sumR f L = sumR f1 L + sumR f2 L
  | [], _ => rfl
  | r :: L, h => by
    have ih := sumR_add (f := f) (f1 := f1) (f2 := f2) (L := L) fun x hx => h x (List.mem_cons_of_mem _ hx)
    unfold sumR at ih ⊢
    rw [List.map_cons, List.map_cons, List.map_cons, List.sum_cons, List.sum_cons, List.sum_cons, h r List.mem_cons_self, Int.mul_add]
    omega
theorem sumR_map {f f' : K3 → Int} {h : Row4 → Row4} {L : List Row4} (hm : ∀ r ∈ L, (h r).m = r.m) (hf : ∀ r ∈ L, f' (h r).k = f r.k) : sumR f' (L.map h) = sumR f L := by
  unfold sumR
  rw [List.map_map]
  congr 1
  refine List.map_congr_left fun r hr => ?_
  show (h r).m * f' (h r).k = _
  rw [hm r hr, hf r hr]
theorem free_row {F row : Nat → Int} {M : Nat → Nat → Int} (hB : Bld ds (freeG g) (rowF (List.replicate n 0)) n F M n) (hR : IsRow (aloneG g ds) (rowF (ds.map Dgh.mix)) row n) (hn : n = g.days.length) (hdl : ds.length = n) (hd : ∀ d ∈ ds, 0 ≤ d.mix ∧ 0 ≤ d.dough ∧ 0 ≤ d.hold) (N1 : NonNegW (freeG g).days) (N2 : NonNegW (aloneG g ds).days) : F n = row n + sumN (fun k => wantN g k * loafN g k) n := by
  have z0 : ∀ b, rowF (List.replicate n (0 : Int)) b = 0 := fun b => by
    unfold rowF
    rw [List.getD_eq_getElem?_getD, List.getElem?_replicate]
    split <;> rfl
  have hl0 : ∀ b, 0 ≤ rowF (List.replicate n (0 : Int)) b := fun b => by rw [z0]; exact Int.le_refl _
  have hmf : ∀ b, 0 ≤ mixF ds b := fun b => by
    unfold mixF dghAt
    rw [List.getD_eq_getElem?_getD]
    cases e : ds[b]? with
    | none => exact Int.le_refl 0
    | some d => exact (hd d (List.mem_of_getElem? e)).1
  have hlm : ∀ b, 0 ≤ rowF (ds.map Dgh.mix) b := fun b => by rw [mixes_row]; exact hmf b
  have hlf1 : ∀ l, (freeG g).life = some l → 0 ≤ l := fun l e => by cases e; exact Int.le_refl _
  have hlf2 : ∀ l, (aloneG g ds).life = some l → 0 ≤ l := fun l e => by cases e
  have grp : ∀ {L : List Row4}, (∀ r ∈ L, r.c < n) → (∀ k, k < n → metC L k = wantN g k) → sumR (fun k => loafN g k.2.2) L = sumN (fun k => wantN g k * loafN g k) n := fun {L} h1 h2 => by
    have e : sumR (fun k => loafN g k.2.2) L = (L.map fun r => r.m * loafN g r.c).sum := rfl
    rw [e, sum_group (loafN g) h1]
    have : ∀ m, m ≤ n → sumN (fun k => metC L k * loafN g k) m = sumN (fun k => wantN g k * loafN g k) m := fun m => by
      induction m with
      | zero => exact fun _ => rfl
      | succ m ih =>
        intro hm
        show sumN (fun k => metC L k * loafN g k) m + metC L m * loafN g m = sumN (fun k => wantN g k * loafN g k) m + wantN g m * loafN g m
        rw [ih (by omega), h2 m (by omega)]
    exact this n (Nat.le_refl n)
  -- the ladder's plan, as a plan of the mixing alone
  have ge : row n + sumN (fun k => wantN g k * loafN g k) n ≤ F n := by
    have hW := (walk_ok hB hmf hl0 n n none (Nat.le_refl _) (Nat.le_refl _) (fun e z => nomatch z)).1
    have hc := walk_cost hB (hn.trans free_len.symm) hdl hl0 hd N1 hlf1 (List.Perm.refl _)
    have hr := hW.rows.1
    have hm : ∀ k, k < n → metC (planW (freeG g) (walkD ds (freeG g) (rowF (List.replicate n 0)) F M n n n none)) k = wantN g k := fun k hk => by rw [hW.met, if_pos hk, free_want]
    generalize planW (freeG g) (walkD ds (freeG g) (rowF (List.replicate n 0)) F M n n n none) = L at hc hr hm
    have rw1 : ∀ r ∈ L, r.a ≤ r.c ∧ r.c < n ∧ r.b = r.c ∧ loafP (freeG g) r.b r.c = some (loafN g r.c) ∧ 0 < r.m := fun r h => by
      obtain ⟨a1, a2, a3, ⟨p, a4⟩, a5, a6, _⟩ := hr r h
      obtain ⟨e1, e2⟩ := free_loaf a4 (by omega)
      have := wantN_nonneg N1 r.c
      exact ⟨by omega, a3, e1, by rw [a4, e2], by omega⟩
    have hle := row_le_plan (L := L.map fun r => ⟨r.a, r.a, r.c, r.m⟩) (hn.trans alone_len.symm) hlm N2 hlf2 hR (fun r h => by
      obtain ⟨x, hx, rfl⟩ := List.mem_map.mp h
      obtain ⟨b1, b2, b3, b4, b5⟩ := rw1 x hx
      exact ⟨Nat.le_refl _, show x.a < n by omega, b2, _, alone_own (b := x.a) (c := x.c) (by omega) b1 (by omega)⟩) (fun r h => by
      obtain ⟨x, hx, rfl⟩ := List.mem_map.mp h
      exact (rw1 x hx).2.2.2.2) (fun k hk => by rw [metC_map (h := fun r => ⟨r.a, r.a, r.c, r.m⟩) (fun _ => rfl) (fun _ => rfl), hm k hk, alone_want])
    have ec : costD (zeroD n) (ds.map Dgh.mix) (aloneG g ds) n (L.map fun r => ⟨r.a, r.a, r.c, r.m⟩) + sumR (fun k => loafN g k.2.2) L = costD ds (List.replicate n 0) (freeG g) n L := by
      unfold costD
      rw [litR_nought (zeroD_mix n), litR_nought z0, litR_fun (mixes_row ds), List.map_map]
      rw [sumR_add (f := priceD ds (freeG g)) (f1 := fun k => doughP ds k.1 k.2.2) (f2 := fun k => loafN g k.2.2) fun r h => by
        obtain ⟨b1, b2, b3, b4, b5⟩ := rw1 r h
        show doughP ds r.a r.b + (loafP (freeG g) r.b r.c).getD 0 = doughP ds r.a r.c + loafN g r.c
        rw [b4, b3]
        rfl]
      rw [sumR_map (f' := priceD (zeroD n) (aloneG g ds)) (f := fun k => doughP ds k.1 k.2.2) (h := fun r => ⟨r.a, r.a, r.c, r.m⟩) (fun r _ => rfl) fun r h => by
        obtain ⟨b1, b2, b3, b4, b5⟩ := rw1 r h
        show doughP (zeroD n) r.a r.a + (loafP (aloneG g ds) r.a r.c).getD 0 = doughP ds r.a r.c
        rw [zeroD_dough, alone_own (by omega) b1 (by omega)]
        show 0 + doughP ds r.a r.c = _
        omega]
      show 0 + litR (mixF ds) n (L.map Row4.a) + _ + _ = litR (mixF ds) n (L.map Row4.a) + 0 + _
      omega
    rw [grp (fun r h => (rw1 r h).2.1) hm] at ec
    omega
  -- a plan of the mixing alone, as one with doughs
  have le : F n ≤ row n + sumN (fun k => wantN g k * loafN g k) n := by
    obtain ⟨L, h1, h2, h3, h4⟩ := row_is_plan (hn.trans alone_len.symm) hlm N2 hlf2 hR
    have rw1 : ∀ r ∈ L, r.b ≤ r.c ∧ r.c < n ∧ loafP (aloneG g ds) r.b r.c = some (doughP ds r.b r.c) := fun r h => by
      have hc : r.c < n := (h1 r h).c
      obtain ⟨p, hp⟩ := (h1 r h).p
      have hp : loafP (aloneG g ds) r.b r.c = some p := hp
      obtain ⟨e1, e2⟩ := alone_loaf (by omega) hp (by omega)
      exact ⟨e1, hc, by rw [hp, e2]⟩
    have hm : ∀ k, k < n → metC L k = wantN g k := fun k hk => by rw [h3 k hk, alone_want]
    have hle := (hB.lad hmf).le_plan (L := L.map fun r => ⟨r.b, r.c, r.c, r.m⟩) (hn.trans free_len.symm) hdl hl0 hd N1 hlf1 (fun r h => by
      obtain ⟨x, hx, rfl⟩ := List.mem_map.mp h
      obtain ⟨b1, b2, b3⟩ := rw1 x hx
      exact ⟨b1, b2, b2, _, free_own (by show x.c < _; omega)⟩) (fun r h => by
      obtain ⟨x, hx, rfl⟩ := List.mem_map.mp h
      exact h2 x hx) (fun k hk => by rw [metC_map (h := fun r => ⟨r.b, r.c, r.c, r.m⟩) (fun _ => rfl) (fun _ => rfl), hm k hk, free_want])
    have ec : costD (zeroD n) (ds.map Dgh.mix) (aloneG g ds) n L + sumR (fun k => loafN g k.2.2) L = costD ds (List.replicate n 0) (freeG g) n (L.map fun r => ⟨r.b, r.c, r.c, r.m⟩) := by
      unfold costD
      rw [litR_nought (zeroD_mix n), litR_nought z0, litR_fun (mixes_row ds), List.map_map]
      rw [sumR_map (f' := priceD ds (freeG g)) (f := fun k => doughP ds k.2.1 k.2.2 + loafN g k.2.2) (h := fun r => ⟨r.b, r.c, r.c, r.m⟩) (fun r _ => rfl) fun r h => by
        obtain ⟨b1, b2, b3⟩ := rw1 r h
        show doughP ds r.b r.c + (loafP (freeG g) r.c r.c).getD 0 = doughP ds r.b r.c + loafN g r.c
        rw [free_own (by omega)]
        rfl]
      rw [sumR_add (f := fun k : K3 => doughP ds k.2.1 k.2.2 + loafN g k.2.2) (f1 := fun k => doughP ds k.2.1 k.2.2) (f2 := fun k => loafN g k.2.2) fun r _ => rfl]
      have e2 : sumR (priceD (zeroD n) (aloneG g ds)) L = sumR (fun k => doughP ds k.2.1 k.2.2) L := by
        unfold sumR
        congr 1
        refine List.map_congr_left fun r h => ?_
        obtain ⟨b1, b2, b3⟩ := rw1 r h
        show r.m * (doughP (zeroD n) r.a r.b + (loafP (aloneG g ds) r.b r.c).getD 0) = r.m * doughP ds r.b r.c
        rw [zeroD_dough, b3]
        show r.m * (0 + doughP ds r.b r.c) = _
        rw [Int.zero_add]
      rw [e2]
      show 0 + litR (mixF ds) n (L.map Row4.b) + _ + _ = litR (mixF ds) n (L.map Row4.b) + 0 + _
      omega
    rw [grp (fun r h => (rw1 r h).2.1) hm, h4] at ec
    omega
  omega
end
end Bk

namespace Bk
open PySem PySem.Spec PyProof.Rows L2
/-! ### data of a known size: what its text is long, and how deep it is -/
structure Szd (l j : Nat) (d : PyData) : Prop where
  able : d.showable = true
  len : d.shown.length ≤ l
  deep : d.depth ≤ j
theorem Szd.mono {l j l' j' : Nat} {d : PyData} (h : Szd l j d) (h1 : l ≤ l') (h2 : j ≤ j') : Szd l' j' d := ⟨h.able, Nat.le_trans h.len h1, Nat.le_trans h.deep h2⟩
theorem shownAll_n : ∀ ds : List PyData, (PyData.shownAll ds).length = ds.length
  | [] => rfl
  | d :: r => by simp only [PyData.shownAll, List.length_cons, shownAll_n r]
def zAny (K : PySem.W.Frag) (l j : Nat) : Hp → V → Prop := fun H y => ∃ d, Th K H y d ∧ Szd l j d
def zTup (K : PySem.W.Frag) (n l j : Nat) : Hp → V → Prop := fun H y => ∃ ds, ds.length ≤ n ∧ Th K H y (.tuple ds) ∧ ∀ d ∈ ds, Szd l j d
def zLst (K : PySem.W.Frag) (n l j : Nat) : Hp → V → Prop := fun H y => ∃ ds, ds.length ≤ n ∧ Th K H y (.list ds) ∧ ∀ d ∈ ds, Szd l j d
def zLstE (K : PySem.W.Frag) (n l j : Nat) : Hp → V → Prop := fun H y => ∃ ds, ds.length = n ∧ Th K H y (.list ds) ∧ ∀ d ∈ ds, Szd l j d
def zAll (K : PySem.W.Frag) (n l j : Nat) : Hp → List V → Prop := fun H ys => ∃ ds, ds.length = n ∧ ThAll K H ys ds ∧ ∀ d ∈ ds, Szd l j d
def zLstT (K : PySem.W.Frag) (n l j : Nat) : Hp → V → Prop := fun H y => ∃ a xs ds, y = .ref a ∧ H a = some (.lst xs) ∧ ThAll K H xs ds ∧ ds.length ≤ n ∧ ∀ d ∈ ds, Szd l j d
section
variable {K : PySem.W.Frag} {σ : L2.St} {H : Hp} {te ta tb : TE} {n m l j l1 j1 l2 j2 : Nat}
end
end Bk

namespace Bk
open PySem PySem.Spec PyProof.Rows L2
/-! ### data of which something is known; lists picked from; xs[::-1] of a list -/
theorem Szd.few {l j : Nat} {ds : List PyData} (h : Szd l j (.list ds)) : 2 * ds.length ≤ l := by
  have h1 := h.len
  have h2 : (listText (PyData.shownAll ds)).length ≤ l := h1
  have h3 := (textFrom_len (PyData.shownAll ds) 0 "[").1
  rw [shownAll_n] at h3
  have hX : (listText (PyData.shownAll ds)).length = (textFrom 0 "[" (PyData.shownAll ds)).length + 1 := by
    show (textFrom 0 "[" (PyData.shownAll ds) ++ "]").length = _
    rw [strLen_append]; rfl
  have h4 : ("[" : Str).length = 1 := by decide +kernel
  rw [h4] at h3
  rw [if_neg (by decide)] at h3
  omega
def pAny (K : PySem.W.Frag) (P : PyData → Prop) : Hp → V → Prop := fun H y => ∃ d, Th K H y d ∧ P d
def pAll (K : PySem.W.Frag) (P : PyData → Prop) (n : Nat) : Hp → List V → Prop := fun H ys => ∃ ds, ds.length = n ∧ ThAll K H ys ds ∧ ∀ d ∈ ds, P d
def pLstE (K : PySem.W.Frag) (P : PyData → Prop) (n : Nat) : Hp → V → Prop := fun H y => ∃ ds, ds.length = n ∧ Th K H y (.list ds) ∧ ∀ d ∈ ds, P d
section
variable {K : PySem.W.Frag} {σ : L2.St} {H : Hp} {te ta tb : TE} {n m l j : Nat} {P : PyData → Prop}
end
end Bk

namespace Bk
open PySem PySem.Spec PyProof.Rows L2
local macro_rules | `(tactic| walk_at "wp") => `(tactic| try simp only [tNever, tFor_eq, tLc_eq, iList, iTup, iRng1_eq, rRng1_i, iRng2_eq, rRng2_i, iEnum_eq, rEnum_r, iZip_eq, rZip_r, tSl, tPart, tNoPart, rSlL_r, rCat_r, rIn_r, gTup_r, gUnl_r, rInt1_b, rInt1_i, rRep_r, tStep_r, scal, tSeq, tNext, tAsg, tRet, tRetN, tIfS, tDrop, tCB, tCons, tNil, tVar, tOp, tUn, tC, rU_i, rI_ii, rI0_ii, rEq, rNe, tTest, tB, tAnd, tOr, tNot, tAndV, tOrV, tNotV, tIf, tChain, tLst, tTup, tBM, tBM0, rAppend_r, rIxL_r, rIxT_r, rMx_ii, rMn_ii, rLnL_r, rLnT_r, rIsD_int, rIsD_bool, rIsD_list, rIsD_tuple, tCall, gName, gNil_n, gCons_c, cxK, L2.start, List.map, List.replicate, List.length_cons, List.length_nil, List.cons_append, List.nil_append, List.append_nil, List.getElem?_cons_zero, List.getElem?_cons_succ, Option.some.injEq, exists_eq_left', exists_eq_left, V.int.injEq, V.bl.injEq, V.str.injEq, V.ref.injEq, List.cons.injEq, and_true, true_and, and_self, List.set, wipe, rAll_r, rSum_r, reduceCtorEq, decide_true, decide_false, reduceIte, ite_true, ite_false, if_true, if_false, Bool.false_eq_true, Bool.not_true, Bool.not_false])
local macro_rules | `(tactic| walk_at "shaped") => `(tactic| (simp only [SeqAt.shaped, PyData.canLay0, PyData.canLayAll0, PyData.depth, PyData.depthAll]; rfl))
local macro_rules | `(tactic| walk_at "lay") => `(tactic| (simp only [PyData.canLay0, PyData.canLayAll0]; rfl))
def top (i : Nat) : Stmt := PySem.Challenge.pw_bakeahead_k87_whole_doughs_as_plain_ones.main.body.getD i (.Pass ⟨0, 0, 0, 0⟩)
structure Bi (mg : Str → Option Value) : Prop where
  len : mg "len" = none
  max : mg "max" = none
  min : mg "min" = none
  range : mg "range" = none
  isinstance : mg "isinstance" = none
  int : mg "int" = none
  bool : mg "bool" = none
  list : mg "list" = none
  tuple : mg "tuple" = none
  all : mg "all" = none
  sum : mg "sum" = none
  repr : mg "repr" = none
  enumerate : mg "enumerate" = none
section
variable {P : Program} {w : World} {K : PySem.W.Frag} {mg : Str → Option Value} {base : Heap}
abbrev s_is_whole : Stmt := top 8
theorem sc_is_whole : FnScope ["thing"] ["thing"] (defScope s_is_whole) := ⟨rfl, rfl, rfl, by decide +kernel, rfl, by decide +kernel, by decide +kernel⟩
def spWhole (K : PySem.W.Frag) : Sp := fun vs H Q _ => ∃ x d, vs = [x] ∧ Th K H x d ∧ Q (.bl (wholeD d)) H
theorem ok_is_whole {f : Addr} {fd : FuncData} {k : Nat} (F : Fun K "is_whole" "is_whole" s_is_whole f fd) (B : Bi mg) : FnOk P w K mg base CX0 (k + 1) f fd ["thing"] (spWhole K) := by
  refine F.ok sc_is_whole (fun vs H Q E h => ?_) (fun cdv A outer s H vs Q E hr h => ?_)
  · obtain ⟨x, d, rfl, _⟩ := h
    rfl
  · obtain ⟨x, d, rfl, hx, q⟩ := h
    refine ⟨_, (pss_one (ps_ret (pe_and (pe_callB (call_isD .int) (by rfl) B.isinstance (by decide +kernel) (pa_cons (pv 0) (pa_cons (pe_bltn (v := .ty "int") (by rfl) B.int (by decide +kernel) rfl) pa_nil))) (pe_one (pe_not (pe_callB (call_isD .bool) (by rfl) B.isinstance (by decide +kernel) (pa_cons (pv 0) (pa_cons (pe_bltn (v := .ty "bool") (by rfl) B.bool (by decide +kernel) rfl) pa_nil)))))))), ?_⟩
    walk_at "wp"
    refine ⟨d, hx, ite2 (fun h => ⟨d, hx, ?_⟩) (fun h => ?_)⟩
    · rw [← wholeD_is, h] at q
      exact q
    · rw [← wholeD_is, Bool.eq_false_iff.mpr h] at q
      exact q
abbrev s_is_number : Stmt := top 9
theorem sc_is_number : FnScope ["thing"] ["thing"] (defScope s_is_number) := ⟨rfl, rfl, rfl, by decide +kernel, rfl, by decide +kernel, by decide +kernel⟩
def spNum (K : PySem.W.Frag) : Sp := fun vs H Q _ => ∃ x d, vs = [x] ∧ Th K H x d ∧ Q (.bl (numD d)) H
theorem ok_is_number {f : Addr} {fd : FuncData} {k : Nat} (F : Fun K "is_number" "is_number" s_is_number f fd) (B : Bi mg) {t : Tok} (M_GREATEST : mg "GREATEST" = some (.int 1000000000 t)) (D_is_whole : Def P w K mg base "is_whole" (k + 1) ["thing"] (spWhole K)) :
    FnOk P w K mg base CX0 (k + 2) f fd ["thing"] (spNum K) := by
  refine F.ok sc_is_number (fun vs H Q E h => ?_) (fun cdv A outer s H vs Q E hr h => ?_)
  · obtain ⟨x, d, rfl, _⟩ := h
    rfl
  · obtain ⟨x, d, rfl, hx, q⟩ := h
    refine ⟨_, (pss_one (ps_ret (pe_and (pe_callD D_is_whole hr (by rfl) (pa_cons (pv 0) pa_nil)) (pe_one (pe_chain op_le op_le pe_int (pv 0) (pe_globI rfl M_GREATEST)))))), ?_⟩
    walk_at "wp"
    refine ⟨x, d, rfl, hx, ?_⟩
    walk_at "wp"
    cases hx with
    | int i =>
      simp only [wholeD]
      walk_at "wp"
      refine ite2 (fun h => ?_) (fun h => ?_)
      · show Q (.bl (decide (i ≤ 1000000000))) H
        simp only [numD, h, Bool.true_and] at q
        exact q
      · simp only [numD, Bool.eq_false_iff.mpr h, Bool.false_and] at q
        exact q
    | _ => exact q

abbrev s_is_tuple_of : Stmt := top 14
theorem sc_is_tuple_of : FnScope ["thing", "many"] ["thing", "many"] (defScope s_is_tuple_of) := ⟨rfl, rfl, rfl, by decide +kernel, rfl, by decide +kernel, by decide +kernel⟩
def spTupleOf (K : PySem.W.Frag) : Sp := fun vs H Q _ => ∃ x d, ∃ n : Nat, vs = [x, .int (n : Int)] ∧ Th K H x d ∧ Q (.bl (tupB n d)) H
theorem ok_is_tuple_of {f : Addr} {fd : FuncData} (F : Fun K "is_tuple_of" "is_tuple_of" s_is_tuple_of f fd) (B : Bi mg) : FnOk P w K mg base CX0 1 f fd ["thing", "many"] (spTupleOf K) := by
  refine F.ok sc_is_tuple_of (fun vs H Q E h => ?_) (fun cdv A outer s H vs Q E hr h => ?_)
  · obtain ⟨x, d, n, rfl, _⟩ := h
    rfl
  · obtain ⟨x, d, n, rfl, hx, q⟩ := h
    refine ⟨_, (pss_one (ps_ret (pe_and (pe_callB (call_isD .tuple) (by rfl) B.isinstance (by decide +kernel) (pa_cons (pv 0) (pa_cons (pe_bltn (v := .ty "tuple") (by rfl) B.tuple (by decide +kernel) rfl) pa_nil))) (pe_one (pe_cmpR op_eq (pe_callB call_lnT (by rfl) B.len (by decide +kernel) (pa_cons (pv 0) pa_nil)) (pv 1) (nomark _)))))), ?_⟩
    walk_at "wp"
    refine ⟨d, hx, ?_⟩
    cases hx with
    | tup ht ha =>
      simp only [isD]
      walk_at "wp"
      refine ⟨_, ht, qb ?_ q⟩
      rw [ha.length]
      exact decide_eq_decide.mpr (by omega)
    | _ => exact q
abbrev s_is_list_of : Stmt := top 15
theorem sc_is_list_of : FnScope ["thing", "fewest", "most"] ["thing", "fewest", "most"] (defScope s_is_list_of) := ⟨rfl, rfl, rfl, by decide +kernel, rfl, by decide +kernel, by decide +kernel⟩
def spListOf (K : PySem.W.Frag) : Sp := fun vs H Q _ => ∃ x d, ∃ n m : Nat, vs = [x, .int (n : Int), .int (m : Int)] ∧ Th K H x d ∧ Q (.bl (listB n m d)) H
theorem ok_is_list_of {f : Addr} {fd : FuncData} (F : Fun K "is_list_of" "is_list_of" s_is_list_of f fd) (B : Bi mg) : FnOk P w K mg base CX0 1 f fd ["thing", "fewest", "most"] (spListOf K) := by
  refine F.ok sc_is_list_of (fun vs H Q E h => ?_) (fun cdv A outer s H vs Q E hr h => ?_)
  · obtain ⟨x, d, n, m, rfl, _⟩ := h
    rfl
  · obtain ⟨x, d, n, m, rfl, hx, q⟩ := h
    refine ⟨_, (pss_one (ps_ret (pe_and (pe_callB (call_isD .list) (by rfl) B.isinstance (by decide +kernel) (pa_cons (pv 0) (pa_cons (pe_bltn (v := .ty "list") (by rfl) B.list (by decide +kernel) rfl) pa_nil))) (pe_one (pe_chain op_le op_le (pv 1) (pe_callB call_lnL (by rfl) B.len (by decide +kernel) (pa_cons (pv 0) pa_nil)) (pv 2)))))), ?_⟩
    walk_at "wp"
    refine ⟨d, hx, ?_⟩
    cases hx with
    | lst ht ha =>
      simp only [isD]
      walk_at "wp"
      refine ⟨_, ht, ?_⟩
      have e1 : ∀ a b : Nat, decide ((a : Int) ≤ (b : Int)) = decide (a ≤ b) := fun a b => decide_eq_decide.mpr (by omega)
      rw [ha.length, e1, e1]
      refine ite2 (fun h => qb ?_ q) (fun h => qb ?_ q)
      · simp only [listB, h, Bool.true_and]
      · simp only [listB, Bool.eq_false_iff.mpr h, Bool.false_and]
    | _ => exact q
abbrev s_are_lights : Stmt := top 16
theorem sc_are_lights : FnScope ["thing", "light"] ["thing"] (defScope s_are_lights) := ⟨rfl, rfl, rfl, by decide +kernel, rfl, by decide +kernel, by decide +kernel⟩
def spPred (K : PySem.W.Frag) (p : PyData → Bool) : Sp := fun vs H Q _ => ∃ x d, vs = [x] ∧ Th K H x d ∧ ∀ H', Same H H' → Q (.bl (p d)) H'
theorem ok_are_lights {f : Addr} {fd : FuncData} (F : Fun K "are_lights" "are_lights" s_are_lights f fd) (B : Bi mg) {t : Tok} (M_MOST_DAYS : mg "MOST_DAYS" = some (.int 40 t)) (D_is_list_of : Def P w K mg base "is_list_of" 1 ["thing", "fewest", "most"] (spListOf K)) (D_is_number : Def P w K mg base "is_number" 2 ["thing"] (spNum K)) :
    FnOk P w K mg base CX0 3 f fd ["thing"] (spPred K lightsB) := by
  refine F.ok sc_are_lights (fun vs H Q E h => ?_) (fun cdv A outer s H vs Q E hr h => ?_)
  · obtain ⟨x, d, rfl, _⟩ := h
    rfl
  · obtain ⟨x, d, rfl, hx, q⟩ := h
    refine ⟨_, (pss_one (ps_ret (pe_and (pe_callD D_is_list_of hr (by rfl) (pa_cons (pv 0) (pa_cons pe_int (pa_cons (pe_globI rfl M_MOST_DAYS) pa_nil)))) (pe_one (pe_callB (cr_all rfl) (by rfl) B.all (by decide +kernel) (pa_cons (pe_lc (own := [("light", 1)]) (g := (gName 1)) rfl sc_are_lights.nd (pi_list (pv 0)) (blkOk_by (own := [("light", 1)]) (N := ["thing", "light"]) (sc := defScope s_are_lights) (by decide +kernel)) (fun _ _ _ _ _ => (pg_name (i := 1) sc_are_lights.nd rfl (Or.inl rfl))) (fun _ _ _ _ _ => pts_nil) (fun _ _ _ _ _ => (pe_callD D_is_number hr (by rfl) (pa_cons (pv 1) pa_nil)))) pa_nil)))))), ?_⟩
    walk_at "wp"
    refine ⟨x, d, 1, 40, rfl, hx, ?_⟩
    walk_at "wp"
    cases hx with
    | lst hs ha =>
      refine ite2 (fun h => ?_) (fun h => ?_)
      · have hl := ha.length
        have h40 : _ ≤ 40 := of_decide_eq_true (Bool.and_eq_true_iff.mp h).2
        walk_at "wp"
        refine ⟨⟨_, hs⟩, fun D hD => ?_⟩
        rename_i ds
        refine LcR.map (walk_list (xs := _)) ((ds.map numD).map V.bl) hD (by rw [List.length_map, List.length_map, hl]) (by omega) (fun H s => s.seq hs) (fun _ _ _ _ y => yat_same y) (fun i x y H0 H1 hi s1 yy hy R hR => ?_) (fun H1 s1 hH => ?_)
        · obtain ⟨rfl, hx⟩ := yy
          obtain ⟨d, hd, hxd⟩ := ha.get hx
          walk_at "wp"
          refine ⟨x, d, rfl, hxd.same s1, ?_⟩
          rw [List.getElem?_map, List.getElem?_map, hd] at hy
          cases hy
          exact hR _ (Same.refl _)
        · refine ⟨ds.map numD, SqL.of hH, qb ?_ (q _ s1)⟩
          simp only [lightsB, h, Bool.true_and, List.all_map]
          rfl
      · exact qb (by simp only [lightsB, Bool.eq_false_iff.mpr h, Bool.false_and]) (q H (Same.refl _))
    | _ => exact q H (Same.refl _)
abbrev s_is_bound : Stmt := top 17
theorem sc_is_bound : FnScope ["thing"] ["thing"] (defScope s_is_bound) := ⟨rfl, rfl, rfl, by decide +kernel, rfl, by decide +kernel, by decide +kernel⟩
theorem ok_is_bound {f : Addr} {fd : FuncData} (F : Fun K "is_bound" "is_bound" s_is_bound f fd) (D_is_number : Def P w K mg base "is_number" 2 ["thing"] (spNum K)) :
    FnOk P w K mg base CX0 3 f fd ["thing"] (spPred K boundB) := by
  refine F.ok sc_is_bound (fun vs H Q E h => ?_) (fun cdv A outer s H vs Q E hr h => ?_)
  · obtain ⟨x, d, rfl, _⟩ := h
    rfl
  · obtain ⟨x, d, rfl, hx, q⟩ := h
    refine ⟨_, (pss_one (ps_ret (pe_or (pe_cmpR op_isN (pv 0) pe_non (nomark _)) (pe_one (pe_and (pe_callD D_is_number hr (by rfl) (pa_cons (pv 0) pa_nil)) (pe_one (pe_cmpR op_ge (pv 0) pe_int (nomark _)))))))), ?_⟩
    have hy := hx
    have q0 := q H (Same.refl _)
    cases hx with
    | non =>
      walk_at "wp"
      exact q0
    | int i =>
      walk_at "wp"
      refine ⟨_, _, rfl, hy, ?_⟩
      walk_at "wp"
      refine ite2 (fun h => qb ?_ q0) (fun h => qb ?_ q0)
      · simp only [boundB, h, Bool.true_and]
      · simp only [boundB, Bool.eq_false_iff.mpr h, Bool.false_and]
    | _ =>
      walk_at "wp"
      refine ⟨_, _, rfl, hy, ?_⟩
      exact ⟨_, rfl, iteF q0⟩
abbrev s_is_life : Stmt := top 18
theorem sc_is_life : FnScope ["thing"] ["thing"] (defScope s_is_life) := ⟨rfl, rfl, rfl, by decide +kernel, rfl, by decide +kernel, by decide +kernel⟩
theorem ok_is_life {f : Addr} {fd : FuncData} (F : Fun K "is_life" "is_life" s_is_life f fd) {t : Tok} (M_LONGEST_LIFE : mg "LONGEST_LIFE" = some (.int 40 t)) (D_is_whole : Def P w K mg base "is_whole" 1 ["thing"] (spWhole K)) :
    FnOk P w K mg base CX0 3 f fd ["thing"] (spPred K lifeB) := by
  refine F.ok sc_is_life (fun vs H Q E h => ?_) (fun cdv A outer s H vs Q E hr h => ?_)
  · obtain ⟨x, d, rfl, _⟩ := h
    rfl
  · obtain ⟨x, d, rfl, hx, q⟩ := h
    refine ⟨_, (pss_one (ps_ret (pe_or (pe_cmpR op_isN (pv 0) pe_non (nomark _)) (pe_one (pe_and (pe_callD D_is_whole hr (by rfl) (pa_cons (pv 0) pa_nil)) (pe_one (pe_chain op_le op_le pe_int (pv 0) (pe_globI rfl M_LONGEST_LIFE)))))))), ?_⟩
    have hy := hx
    have q0 := q H (Same.refl _)
    cases hx with
    | non =>
      walk_at "wp"
      exact q0
    | int i =>
      walk_at "wp"
      refine ⟨_, _, rfl, hy, ?_⟩
      simp only [wholeD]
      walk_at "wp"
      refine ite2 (fun h => qb ?_ q0) (fun h => qb ?_ q0)
      · simp only [lifeB, h, Bool.true_and]
      · simp only [lifeB, Bool.eq_false_iff.mpr h, Bool.false_and]
    | _ =>
      walk_at "wp"
      refine ⟨_, _, rfl, hy, ?_⟩
      exact ⟨_, rfl, iteF q0⟩
abbrev s_is_day : Stmt := top 19
theorem sc_is_day : FnScope ["thing", "want", "loaf", "keep", "fine", "part"] ["thing"] (defScope s_is_day) := ⟨rfl, rfl, rfl, by decide +kernel, rfl, by decide +kernel, by decide +kernel⟩
theorem ok_is_day {f : Addr} {fd : FuncData} (F : Fun K "is_day" "is_day" s_is_day f fd) (B : Bi mg) (D_is_tuple_of : Def P w K mg base "is_tuple_of" 1 ["thing", "many"] (spTupleOf K)) (D_is_number : Def P w K mg base "is_number" 2 ["thing"] (spNum K)) :
    FnOk P w K mg base CX0 3 f fd ["thing"] (spPred K dayB) := by
  refine F.ok sc_is_day (fun vs H Q E h => ?_) (fun cdv A outer s H vs Q E hr h => ?_)
  · obtain ⟨x, d, rfl, _⟩ := h
    rfl
  · obtain ⟨x, d, rfl, hx, q⟩ := h
    refine ⟨_, (pss_cons (ps_if (pt_not (pt_val (pe_callD D_is_tuple_of hr (by rfl) (pa_cons (pv 0) (pa_cons pe_int pa_nil))))) (pss_one (ps_ret pe_bl)) pss_nil)
 (pss_cons (ps_asg (pv 0) (pg_tup rfl (pgs_cons (pg_name (i := 1) sc_is_day.nd rfl (Or.inl rfl)) (pgs_cons (pg_name (i := 2) sc_is_day.nd rfl (Or.inl rfl)) (pgs_cons (pg_name (i := 3) sc_is_day.nd rfl (Or.inl rfl)) (pgs_cons (pg_name (i := 4) sc_is_day.nd rfl (Or.inl rfl)) pgs_nil))))))
 (pss_one (ps_ret (pe_and (pe_callB (cr_all rfl) (by rfl) B.all (by decide +kernel) (pa_cons (pe_lc (own := [("part", 5)]) (g := (gName 5)) rfl sc_is_day.nd (pi_tup (pe_tup (pa_cons (pv 1) (pa_cons (pv 2) (pa_cons (pv 3) pa_nil))))) (blkOk_by (own := [("part", 5)]) (N := ["thing", "want", "loaf", "keep", "fine", "part"]) (sc := defScope s_is_day) (by decide +kernel)) (fun _ _ _ _ _ => (pg_name (i := 5) sc_is_day.nd rfl (Or.inl rfl))) (fun _ _ _ _ _ => pts_nil) (fun _ _ _ _ _ => (pe_callD D_is_number hr (by rfl) (pa_cons (pv 5) pa_nil)))) pa_nil)) (pe_one (pe_or (pe_cmpR op_isN (pv 4) pe_non (nomark _)) (pe_one (pe_callD D_is_number hr (by rfl) (pa_cons (pv 4) pa_nil)))))))))), ?_⟩
    walk_at "wp"
    refine ⟨x, d, 4, rfl, hx, ?_⟩
    walk_at "wp"
    cases hx with
    | tup hs ha =>
      rename_i a xs ds
      refine ite2 (fun h => ?_) (fun h => ?_)
      · refine qb ?_ (q H (Same.refl _))
        have h4 : ¬ ds.length = 4 := of_decide_eq_false (Bool.eq_false_iff.mpr fun z => by rw [show tupB 4 (.tuple ds) = true from z] at h; cases h)
        symm
        match ds, h4 with
        | [], _ => rfl
        | [_], _ => rfl
        | [_, _], _ => rfl
        | [_, _, _], _ => rfl
        | [_, _, _, _], h4 => exact absurd rfl h4
        | _ :: _ :: _ :: _ :: _ :: _, _ => rfl
      · have h4 : ds.length = 4 := of_decide_eq_true (show tupB 4 (.tuple ds) = true by cases e : tupB 4 (.tuple ds) with | true => rfl | false => rw [e] at h; exact absurd rfl h)
        obtain ⟨d1, d2, d3, d4, rfl⟩ := four h4
        cases ha with
        | cons t1 ha => cases ha with
        | cons t2 ha => cases ha with
        | cons t3 ha => cases ha with
        | cons t4 ha =>
        cases ha
        rename_i v1 v2 v3 v4
        walk_at "wp"
        refine ⟨_, hs, rfl, ?_⟩
        walk_at "wp"
        refine ⟨sz100 (by decide), fun p hp => ⟨⟨_, SqT.of upd_same⟩, fun D hD => ?_⟩⟩
        have sp : Same H (upd H p (.tup [v1, v2, v3])) := same_upd hp
        have hT : SqT K (upd H p (.tup [v1, v2, v3])) p [v1, v2, v3] := SqT.of upd_same
        generalize upd H p (.tup [v1, v2, v3]) = Hb at sp hT hD ⊢
        have ta : ThAll K Hb [v1, v2, v3] [d1, d2, d3] := .cons (t1.same sp) (.cons (t2.same sp) (.cons (t3.same sp) .nil))
        refine LcR.map (walk_tup (xs := [v1, v2, v3])) (([d1, d2, d3].map numD).map V.bl) hD rfl (by show 3 ≤ 100000; decide) (fun H s => Same.tup s hT) (fun _ _ _ _ y => yat_same y) (fun i x y H0 H1 hi s1 yy hy R hR => ?_) (fun H1 s1 hH => ?_)
        · obtain ⟨rfl, hx⟩ := yy
          obtain ⟨d, hd, hxd⟩ := ta.get hx
          walk_at "wp"
          refine ⟨x, d, rfl, hxd.same s1, ?_⟩
          rw [List.getElem?_map, List.getElem?_map, hd] at hy
          cases hy
          exact hR _ (Same.refl _)
        · have q1 := q _ (sp.trans s1)
          refine ⟨[d1, d2, d3].map numD, SqL.of hH, ?_⟩
          have e3 : ([d1, d2, d3].map numD).all id = (numD d1 && numD d2 && numD d3) := by
            simp only [List.map, List.all_cons, List.all_nil, id, Bool.and_true, Bool.and_assoc]
          rw [e3]
          refine ite2 (fun h => ?_) (fun h => qb ?_ q1)
          · have t4' := t4.same (sp.trans s1)
            rw [t4'.isNon]
            refine ite2 (fun hn => qb ?_ q1) (fun hn => ⟨_, _, rfl, t4', qb ?_ q1⟩)
            · simp only [dayB, h, hn, Bool.true_or, Bool.true_and]
            · simp only [dayB, h, Bool.eq_false_iff.mpr hn, Bool.false_or, Bool.true_and]
          · simp only [dayB, Bool.eq_false_iff.mpr h, Bool.false_and]
    | _ => exact q H (Same.refl _)
abbrev s_has_bakery_form : Stmt := top 20
theorem sc_has_bakery_form : FnScope ["thing", "lights", "bound", "goods"] ["thing"] (defScope s_has_bakery_form) := ⟨rfl, rfl, rfl, by decide +kernel, rfl, by decide +kernel, by decide +kernel⟩
theorem ok_has_bakery_form {f : Addr} {fd : FuncData} (F : Fun K "has_bakery_form" "has_bakery_form" s_has_bakery_form f fd) (D_is_tuple_of : Def P w K mg base "is_tuple_of" 1 ["thing", "many"] (spTupleOf K)) (D_are_lights : Def P w K mg base "are_lights" 3 ["thing"] (spPred K lightsB))
    (D_is_bound : Def P w K mg base "is_bound" 3 ["thing"] (spPred K boundB)) (D_is_list_of : Def P w K mg base "is_list_of" 1 ["thing", "fewest", "most"] (spListOf K)) {t : Tok} (M_MOST_GOODS : mg "MOST_GOODS" = some (.int 2 t)) :
    FnOk P w K mg base CX0 4 f fd ["thing"] (spPred K bakFormB) := by
  refine F.ok sc_has_bakery_form (fun vs H Q E h => ?_) (fun cdv A outer s H vs Q E hr h => ?_)
  · obtain ⟨x, d, rfl, _⟩ := h
    rfl
  · obtain ⟨x, d, rfl, hx, q⟩ := h
    refine ⟨_, (pss_cons (ps_if (pt_not (pt_val (pe_callD D_is_tuple_of hr (by rfl) (pa_cons (pv 0) (pa_cons pe_int pa_nil))))) (pss_one (ps_ret pe_bl)) pss_nil)
 (pss_cons (ps_asg (pv 0) (pg_tup rfl (pgs_cons (pg_name (i := 1) sc_has_bakery_form.nd rfl (Or.inl rfl)) (pgs_cons (pg_name (i := 2) sc_has_bakery_form.nd rfl (Or.inl rfl)) (pgs_cons (pg_name (i := 3) sc_has_bakery_form.nd rfl (Or.inl rfl)) pgs_nil)))))
 (pss_one (ps_ret (pe_and (pe_callD D_are_lights hr (by rfl) (pa_cons (pv 1) pa_nil)) (pe_and (pe_callD D_is_bound hr (by rfl) (pa_cons (pv 2) pa_nil)) (pe_one (pe_callD D_is_list_of hr (by rfl) (pa_cons (pv 3) (pa_cons pe_int (pa_cons (pe_globI rfl M_MOST_GOODS) pa_nil))))))))))), ?_⟩
    walk_at "wp"
    refine ⟨x, d, 3, rfl, hx, ?_⟩
    walk_at "wp"
    cases hx with
    | tup hs ha =>
      rename_i a xs ds
      refine ite2 (fun h => ?_) (fun h => ?_)
      · refine qb ?_ (q H (Same.refl _))
        have h4 : ¬ ds.length = 3 := of_decide_eq_false (Bool.eq_false_iff.mpr fun z => by rw [show tupB 3 (.tuple ds) = true from z] at h; cases h)
        symm
        match ds, h4 with
        | [], _ => rfl
        | [_], _ => rfl
        | [_, _], _ => rfl
        | [_, _, _], h4 => exact absurd rfl h4
        | _ :: _ :: _ :: _ :: _, _ => rfl
      · have h4 : ds.length = 3 := of_decide_eq_true (show tupB 3 (.tuple ds) = true by cases e : tupB 3 (.tuple ds) with | true => rfl | false => rw [e] at h; exact absurd rfl h)
        obtain ⟨d1, d2, d3, rfl⟩ := three h4
        cases ha with
        | cons t1 ha => cases ha with
        | cons t2 ha => cases ha with
        | cons t3 ha =>
        cases ha
        rename_i v1 v2 v3
        walk_at "wp"
        refine ⟨_, hs, rfl, ?_⟩
        walk_at "wp"
        refine ⟨_, _, rfl, t1, fun H1 s1 => ?_⟩
        walk_at "wp"
        refine ite2 (fun h1 => ⟨_, _, rfl, t2.same s1, fun H2 s2 => ?_⟩) (fun h1 => qb ?_ (q H1 s1))
        · walk_at "wp"
          refine ite2 (fun h2 => ⟨_, _, 1, 2, rfl, t3.same (s1.trans s2), qb ?_ (q H2 (s1.trans s2))⟩) (fun h2 => qb ?_ (q H2 (s1.trans s2)))
          · simp only [bakFormB, h1, h2, Bool.true_and]
          · simp only [bakFormB, h1, Bool.eq_false_iff.mpr h2, Bool.true_and, Bool.false_and]
        · simp only [bakFormB, Bool.eq_false_iff.mpr h1, Bool.false_and]
    | _ => exact q H (Same.refl _)
abbrev s_has_good_form : Stmt := top 21
theorem sc_has_good_form : FnScope ["thing", "many", "days", "life"] ["thing", "many"] (defScope s_has_good_form) := ⟨rfl, rfl, rfl, by decide +kernel, rfl, by decide +kernel, by decide +kernel⟩
def spGoodForm (K : PySem.W.Frag) : Sp := fun vs H Q _ => ∃ x d, ∃ n : Nat, vs = [x, .int (n : Int)] ∧ Th K H x d ∧ ∀ H', Same H H' → Q (.bl (goodFormB n d)) H'
theorem ok_has_good_form {f : Addr} {fd : FuncData} (F : Fun K "has_good_form" "has_good_form" s_has_good_form f fd) (D_is_tuple_of : Def P w K mg base "is_tuple_of" 1 ["thing", "many"] (spTupleOf K)) (D_is_life : Def P w K mg base "is_life" 3 ["thing"] (spPred K lifeB))
    (D_is_list_of : Def P w K mg base "is_list_of" 1 ["thing", "fewest", "most"] (spListOf K)) :
    FnOk P w K mg base CX0 4 f fd ["thing", "many"] (spGoodForm K) := by
  refine F.ok sc_has_good_form (fun vs H Q E h => ?_) (fun cdv A outer s H vs Q E hr h => ?_)
  · obtain ⟨x, d, n, rfl, _⟩ := h
    rfl
  · obtain ⟨x, d, n, rfl, hx, q⟩ := h
    refine ⟨_, (pss_cons (ps_if (pt_not (pt_val (pe_callD D_is_tuple_of hr (by rfl) (pa_cons (pv 0) (pa_cons pe_int pa_nil))))) (pss_one (ps_ret pe_bl)) pss_nil)
 (pss_cons (ps_asg (pv 0) (pg_tup rfl (pgs_cons (pg_name (i := 2) sc_has_good_form.nd rfl (Or.inl rfl)) (pgs_cons (pg_name (i := 3) sc_has_good_form.nd rfl (Or.inl rfl)) pgs_nil))))
 (pss_one (ps_ret (pe_and (pe_callD D_is_list_of hr (by rfl) (pa_cons (pv 2) (pa_cons (pv 1) (pa_cons (pv 1) pa_nil)))) (pe_one (pe_callD D_is_life hr (by rfl) (pa_cons (pv 3) pa_nil)))))))), ?_⟩
    walk_at "wp"
    refine ⟨x, d, 2, rfl, hx, ?_⟩
    walk_at "wp"
    cases hx with
    | tup hs ha =>
      rename_i a xs ds
      refine ite2 (fun h => ?_) (fun h => ?_)
      · refine qb ?_ (q H (Same.refl _))
        have h4 : ¬ ds.length = 2 := of_decide_eq_false (Bool.eq_false_iff.mpr fun z => by rw [show tupB 2 (.tuple ds) = true from z] at h; cases h)
        symm
        match ds, h4 with
        | [], _ => rfl
        | [_], _ => rfl
        | [_, _], h4 => exact absurd rfl h4
        | _ :: _ :: _ :: _, _ => rfl
      · have h4 : ds.length = 2 := of_decide_eq_true (show tupB 2 (.tuple ds) = true by cases e : tupB 2 (.tuple ds) with | true => rfl | false => rw [e] at h; exact absurd rfl h)
        obtain ⟨d1, d2, rfl⟩ := two h4
        cases ha with
        | cons t1 ha => cases ha with
        | cons t2 ha =>
        cases ha
        rename_i v1 v2
        walk_at "wp"
        refine ⟨_, hs, rfl, ?_⟩
        walk_at "wp"
        refine ⟨_, _, n, n, rfl, t1, ?_⟩
        walk_at "wp"
        refine ite2 (fun h1 => ⟨_, _, rfl, t2, fun H2 s2 => qb ?_ (q H2 s2)⟩) (fun h1 => qb ?_ (q H (Same.refl _)))
        · simp only [goodFormB, h1, Bool.true_and]
        · simp only [goodFormB, Bool.eq_false_iff.mpr h1, Bool.false_and]
    | _ => exact q H (Same.refl _)
abbrev s_look_at_goods : Stmt := top 22
theorem sc_look_at_goods : FnScope ["goods", "many", "number", "good", "days", "life", "at", "day"] ["goods", "many"] (defScope s_look_at_goods) := ⟨rfl, rfl, rfl, by decide +kernel, rfl, by decide +kernel, by decide +kernel⟩
def spLookGoods (K : PySem.W.Frag) : Sp := fun vs H Q _ => ∃ x, ∃ n : Nat, ∃ gs, vs = [x, .int (n : Int)] ∧ Th K H x (.list gs) ∧ gs.all (goodB n) = true ∧ ∀ H', Same H H' → Q .non H'
def LgI (x : V) (n : Nat) (H : Hp) (_ : Nat) (σ : L2.St) (H' : Hp) : Prop := (∃ y2 y3 y4 y5 y6 y7, σ = [some x, some (.int (n : Int)), y2, y3, y4, y5, y6, y7]) ∧ Same H H'
def LgJ (x : V) (n : Nat) (v2 v3 v4 v5 : V) (H : Hp) (_ : Nat) (σ : L2.St) (H' : Hp) : Prop := (∃ y6 y7, σ = [some x, some (.int (n : Int)), some v2, some v3, some v4, some v5, y6, y7]) ∧ Same H H'
theorem ok_look_at_goods {f : Addr} {fd : FuncData} (F : Fun K "look_at_goods" "look_at_goods" s_look_at_goods f fd) (B : Bi mg) (D_has_good_form : Def P w K mg base "has_good_form" 4 ["thing", "many"] (spGoodForm K)) (D_is_day : Def P w K mg base "is_day" 3 ["thing"] (spPred K dayB)) :
    FnOk P w K mg base CX0 5 f fd ["goods", "many"] (spLookGoods K) := by
  refine F.ok sc_look_at_goods (fun vs H Q E h => ?_) (fun cdv A outer s H vs Q E hr h => ?_)
  · obtain ⟨x, n, gs, rfl, _⟩ := h
    rfl
  · obtain ⟨x, n, gs, rfl, hx, hg, q⟩ := h
    refine ⟨_, (pss_one (ps_for PassesOwn.never rfl (pi_enum (by rfl) B.enumerate (pa_cons (pv 0) pa_nil)) (pg_tup rfl (pgs_cons (pg_name (i := 2) sc_look_at_goods.nd rfl (Or.inl rfl)) (pgs_cons (pg_name (i := 3) sc_look_at_goods.nd rfl (Or.inl rfl)) pgs_nil))) (pss_cons (ps_if (pt_not (pt_val (pe_callD D_has_good_form hr (by rfl) (pa_cons (pv 3) (pa_cons (pv 1) pa_nil))))) (pss_one ps_never) pss_nil)
 (pss_cons (ps_asg (pv 3) (pg_tup rfl (pgs_cons (pg_name (i := 4) sc_look_at_goods.nd rfl (Or.inl rfl)) (pgs_cons (pg_name (i := 5) sc_look_at_goods.nd rfl (Or.inl rfl)) pgs_nil))))
 (pss_one (ps_for PassesOwn.never rfl (pi_enum (by rfl) B.enumerate (pa_cons (pv 4) pa_nil)) (pg_tup rfl (pgs_cons (pg_name (i := 6) sc_look_at_goods.nd rfl (Or.inl rfl)) (pgs_cons (pg_name (i := 7) sc_look_at_goods.nd rfl (Or.inl rfl)) pgs_nil))) (pss_one (ps_if (pt_not (pt_val (pe_callD D_is_day hr (by rfl) (pa_cons (pv 7) pa_nil)))) (pss_one ps_never) pss_nil)))))))), ?_⟩
    cases hx with
    | lst hs ha =>
    rename_i a xs
    walk_at "wp"
    refine ⟨_, hs, LoopR.by walk_enum (LgI (.ref a) n H) ⟨⟨_, _, _, _, _, _, rfl⟩, Same.refl _⟩ (fun i σ H' _ hI => hI.2.seq hs) (fun i v σ H0 H1 hi hI hY => ?_) (fun σ H' hI => q _ hI.2)⟩
    obtain ⟨⟨y2, y3, y4, y5, y6, y7, rfl⟩, S0⟩ := hI
    have S1 := S0.trans (ypair_same hY)
    obtain ⟨T, z1, z2, rfl, hT, rfl, e1, e2⟩ := hY
    cases e1
    have e2 : xs[i]? = some z2 := e2
    obtain ⟨d, hd, hz⟩ := ha.get e2
    have hdg : goodB n d = true := List.all_eq_true.mp hg d (List.mem_of_getElem? hd)
    obtain ⟨ds, l, rfl, hdl, hlf, hda⟩ := goodB_inv hdg
    walk_at "wp"
    refine ⟨_, SqT.of upd_same, rfl, ?_⟩
    walk_at "wp"
    refine ⟨_, _, n, rfl, hz.same S1, fun H2 S2 => ?_⟩
    rw [show goodFormB n (.tuple [.list ds, l]) = true by simp only [goodFormB, listB, hdl, hlf]; simp]
    walk_at "wp"
    have S3 := S1.trans S2
    have hz3 := hz.same S3
    cases hz3 with
    | tup ht hta =>
    rename_i b ys
    cases hta with
    | cons t1 hta => cases hta with
    | cons t2 hta =>
    cases hta
    rename_i v1 v2
    cases t1 with
    | lst hl1 hl2 =>
    rename_i c zs
    walk_at "wp"
    refine ⟨_, ht, rfl, ?_⟩
    walk_at "wp"
    refine ⟨_, hl1, LoopR.by walk_enum (LgJ (.ref a) n _ _ _ _ H2) ⟨⟨_, _, rfl⟩, Same.refl _⟩ (fun i σ H' _ hI => hI.2.seq hl1) (fun j v σ H4 H5 hj hI hY => ?_) (fun σ H' hI => ?_)⟩
    · obtain ⟨⟨y6, y7, rfl⟩, S4⟩ := hI
      have S5 := S4.trans (ypair_same hY)
      obtain ⟨T2, z3, z4, rfl, hT2, rfl, e3, e4⟩ := hY
      cases e3
      have e4 : zs[j]? = some z4 := e4
      obtain ⟨d2, hd2, hz2⟩ := hl2.get e4
      have hdd : dayB d2 = true := List.all_eq_true.mp hda d2 (List.mem_of_getElem? hd2)
      walk_at "wp"
      refine ⟨_, SqT.of upd_same, rfl, ?_⟩
      walk_at "wp"
      refine ⟨_, _, rfl, hz2.same S5, fun H6 S6 => ?_⟩
      rw [hdd]
      walk_at "wp"
      exact ⟨⟨_, _, rfl⟩, S5.trans S6⟩
    · obtain ⟨⟨y6, y7, rfl⟩, S4⟩ := hI
      exact ⟨⟨_, _, _, _, _, _, rfl⟩, S3.trans S4⟩
abbrev s_look_at_bakery : Stmt := top 23
theorem sc_look_at_bakery : FnScope ["thing", "lights", "bound", "goods"] ["thing"] (defScope s_look_at_bakery) := ⟨rfl, rfl, rfl, by decide +kernel, rfl, by decide +kernel, by decide +kernel⟩
def spLook (K : PySem.W.Frag) : Sp := fun vs H Q _ => ∃ x d, vs = [x] ∧ Th K H x d ∧ bakB d = true ∧ ∀ H', Same H H' → Q .non H'
theorem ok_look_at_bakery {f : Addr} {fd : FuncData} (F : Fun K "look_at_bakery" "look_at_bakery" s_look_at_bakery f fd) (B : Bi mg) (D_has_bakery_form : Def P w K mg base "has_bakery_form" 4 ["thing"] (spPred K bakFormB)) (D_look_at_goods : Def P w K mg base "look_at_goods" 5 ["goods", "many"] (spLookGoods K)) :
    FnOk P w K mg base CX0 6 f fd ["thing"] (spLook K) := by
  refine F.ok sc_look_at_bakery (fun vs H Q E h => ?_) (fun cdv A outer s H vs Q E hr h => ?_)
  · obtain ⟨x, d, rfl, _⟩ := h
    rfl
  · obtain ⟨x, d, rfl, hx, hb, q⟩ := h
    refine ⟨_, (pss_cons (ps_if (pt_not (pt_val (pe_callD D_has_bakery_form hr (by rfl) (pa_cons (pv 0) pa_nil)))) (pss_one ps_never) pss_nil)
 (pss_cons (ps_asg (pv 0) (pg_tup rfl (pgs_cons (pg_name (i := 1) sc_look_at_bakery.nd rfl (Or.inl rfl)) (pgs_cons (pg_name (i := 2) sc_look_at_bakery.nd rfl (Or.inl rfl)) (pgs_cons (pg_name (i := 3) sc_look_at_bakery.nd rfl (Or.inl rfl)) pgs_nil)))))
 (pss_one (ps_expr (pe_callD D_look_at_goods hr (by rfl) (pa_cons (pv 3) (pa_cons (pe_callB call_lnL (by rfl) B.len (by decide +kernel) (pa_cons (pv 1) pa_nil)) pa_nil))))))), ?_⟩
    walk_at "wp"
    refine ⟨_, _, rfl, hx, fun H1 S1 => ?_⟩
    obtain ⟨ls, b, gs, rfl, h1, h2, h3, h4⟩ := bakB_inv hb
    rw [show bakFormB (.tuple [.list ls, b, .list gs]) = true by simp only [bakFormB, h1, h2, h3, Bool.and_self]]
    walk_at "wp"
    have hx1 := hx.same S1
    cases hx1 with
    | tup ht hta =>
    cases hta with
    | cons t1 hta => cases hta with
    | cons t2 hta => cases hta with
    | cons t3 hta =>
    cases hta
    cases t1 with
    | lst hl1 hl2 =>
    walk_at "wp"
    refine ⟨_, ht, rfl, ?_⟩
    walk_at "wp"
    refine ⟨_, hl1, _, ls.length, gs, by rw [hl2.length], t3, h4, fun H2 S2 => q _ (S1.trans S2)⟩
abbrev s_is_place : Stmt := top 26
theorem sc_is_place : FnScope ["thing", "many"] ["thing", "many"] (defScope s_is_place) := ⟨rfl, rfl, rfl, by decide +kernel, rfl, by decide +kernel, by decide +kernel⟩
def spPlace (K : PySem.W.Frag) : Sp := fun vs H Q _ => ∃ i : Int, ∃ n : Nat, vs = [.int i, .int (n : Int)] ∧ Q (.bl (decide (0 ≤ i) && decide (i < (n : Int)))) H
abbrev s_keeps_of : Stmt := top 28
theorem sc_keeps_of : FnScope ["days", "first", "behind", "want", "loaf", "keep", "fine"] ["days", "first", "behind"] (defScope s_keeps_of) := ⟨rfl, rfl, rfl, by decide +kernel, rfl, by decide +kernel, by decide +kernel⟩
def spKeeps (K : PySem.W.Frag) : Sp := fun vs H Q _ => ∃ x ds, ∃ i j : Nat, vs = [x, .int (i : Int), .int (j : Int)] ∧ Th K H x (.list (ds.map dayD)) ∧ ds.length ≤ 1000 ∧ ∀ H', Same H H' → Q (.int (keepsL ds i j)) H'
theorem ok_keeps_of {f : Addr} {fd : FuncData} (F : Fun K "keeps_of" "keeps_of" s_keeps_of f fd) (B : Bi mg) : FnOk P w K mg base CX0 1 f fd ["days", "first", "behind"] (spKeeps K) := by
  refine F.ok sc_keeps_of (fun vs H Q E h => ?_) (fun cdv A outer s H vs Q E hr h => ?_)
  · obtain ⟨x, ds, i, j, rfl, _⟩ := h
    rfl
  · obtain ⟨x, ds, i, j, rfl, hx, hl, q⟩ := h
    refine ⟨_, (pss_one (ps_ret (pe_callB (cr_sum rfl) (by rfl) B.sum (by decide +kernel) (pa_cons (pe_lc (own := [("want", 3), ("loaf", 4), ("keep", 5), ("fine", 6)]) (g := (gTup K 4 (gCons (gName 3) (gCons (gName 4) (gCons (gName 5) (gCons (gName 6) gNil)))))) rfl sc_keeps_of.nd (pi_list (pe_slice sl_list (pv 0) (po_some (pv 1)) (po_some (pv 2)))) (blkOk_by (own := [("want", 3), ("loaf", 4), ("keep", 5), ("fine", 6)]) (N := ["days", "first", "behind", "want", "loaf", "keep", "fine"]) (sc := defScope s_keeps_of) (by decide +kernel)) (fun _ _ _ _ _ => (pg_tup rfl (pgs_cons (pg_name (i := 3) sc_keeps_of.nd rfl (Or.inl rfl)) (pgs_cons (pg_name (i := 4) sc_keeps_of.nd rfl (Or.inl rfl)) (pgs_cons (pg_name (i := 5) sc_keeps_of.nd rfl (Or.inl rfl)) (pgs_cons (pg_name (i := 6) sc_keeps_of.nd rfl (Or.inl rfl)) pgs_nil)))))) (fun _ _ _ _ _ => pts_nil) (fun _ _ _ _ _ => (pv 5))) pa_nil)))), ?_⟩
    cases hx with
    | lst hs ha =>
    rename_i a xs
    walk_at "wp"
    refine ⟨_, hs, fun p hp => ⟨⟨_, SqL.of upd_same⟩, fun D hD => ?_⟩⟩
    rw [cutV_nat] at hD ⊢
    have sp : Same H (upd H p (.lst ((xs.drop i).take (j - i)))) := same_upd hp
    have hL : SqL K (upd H p (.lst ((xs.drop i).take (j - i)))) p ((xs.drop i).take (j - i)) := SqL.of upd_same
    have hb := ((ha.same sp).drop i).take (j - i)
    rw [← List.map_drop, ← List.map_take] at hb
    generalize upd H p (.lst ((xs.drop i).take (j - i))) = Hb at sp hL hD hb ⊢
    generalize hcut : (ds.drop i).take (j - i) = cs at hb
    have hcl : cs.length ≤ 1000 := by
      rw [← hcut, List.length_take, List.length_drop]
      omega
    have hbl := hb.length
    rw [List.length_map] at hbl
    refine LcR.map walk_list (cs.map fun d => V.int d.keep) hD (by rw [List.length_map, hbl]) (by omega) (fun H s => s.seq hL) (fun _ _ _ _ y => yat_same y) (fun i x y H0 H1 hi s1 yy hy R hR => ?_) (fun H1 s1 hH => ?_)
    · obtain ⟨rfl, hx⟩ := yy
      obtain ⟨d, hd, hxd⟩ := hb.get hx
      rw [List.getElem?_map] at hd hy
      cases hc : cs[i]? with
      | none => rw [hc] at hd; cases hd
      | some c =>
        rw [hc] at hd hy
        cases hd
        cases hy
        obtain ⟨t, rfl, ht⟩ := (hxd.same s1).day
        walk_at "wp"
        refine ⟨_, ht, rfl, ?_⟩
        walk_at "wp"
        exact hR _ (Same.refl _)
    · refine ⟨cs.map Day.keep, SqL.of (by rw [List.map_map]; exact hH), ?_⟩
      have q1 := q _ (sp.trans s1)
      unfold keepsL at q1
      rw [hcut] at q1
      exact q1
abbrev s_fines_of : Stmt := top 29
theorem sc_fines_of : FnScope ["days", "first", "behind", "fines", "want", "loaf", "keep", "fine"] ["days", "first", "behind"] (defScope s_fines_of) := ⟨rfl, rfl, rfl, by decide +kernel, rfl, by decide +kernel, by decide +kernel⟩
def spFines (K : PySem.W.Frag) : Sp := fun vs H Q _ => ∃ x ds, ∃ i j : Nat, vs = [x, .int (i : Int), .int (j : Int)] ∧ Th K H x (.list (ds.map dayD)) ∧ ds.length ≤ 1000 ∧ ∀ H', Same H H' → Q (optV (finesL ds i j)) H'
theorem ok_fines_of {f : Addr} {fd : FuncData} (F : Fun K "fines_of" "fines_of" s_fines_of f fd) (B : Bi mg) : FnOk P w K mg base CX0 1 f fd ["days", "first", "behind"] (spFines K) := by
  refine F.ok sc_fines_of (fun vs H Q E h => ?_) (fun cdv A outer s H vs Q E hr h => ?_)
  · obtain ⟨x, ds, i, j, rfl, _⟩ := h
    rfl
  · obtain ⟨x, ds, i, j, rfl, hx, hl, q⟩ := h
    refine ⟨_, (pss_cons (ps_setLc (i := 3) (own := [("want", 4), ("loaf", 5), ("keep", 6), ("fine", 7)]) (g := (gTup K 4 (gCons (gName 4) (gCons (gName 5) (gCons (gName 6) (gCons (gName 7) gNil)))))) rfl sc_fines_of.nd rfl rfl (sw_true rfl rfl rfl (by decide +kernel)) (pi_list (pe_slice sl_list (pv 0) (po_some (pv 1)) (po_some (pv 2)))) (blkOk_by (own := [("want", 4), ("loaf", 5), ("keep", 6), ("fine", 7)]) (N := ["days", "first", "behind", "fines", "want", "loaf", "keep", "fine"]) (sc := defScope s_fines_of) (by decide +kernel)) (fun _ _ _ _ _ => (pg_tup rfl (pgs_cons (pg_name (i := 4) sc_fines_of.nd rfl (Or.inl rfl)) (pgs_cons (pg_name (i := 5) sc_fines_of.nd rfl (Or.inl rfl)) (pgs_cons (pg_name (i := 6) sc_fines_of.nd rfl (Or.inl rfl)) (pgs_cons (pg_name (i := 7) sc_fines_of.nd rfl (Or.inl rfl)) pgs_nil)))))) (fun _ _ _ _ _ => pts_nil) (fun _ _ _ _ _ => (pv 7)))
 (pss_one (ps_ret (pe_ifExp (pt_cmpR op_in_seq pe_non (pv 3) (by rfl)) pe_non (pe_callB (cr_sum rfl) (by rfl) B.sum (by decide +kernel) (pa_cons (pv 3) pa_nil)))))), ?_⟩
    cases hx with
    | lst hs ha =>
    rename_i a xs
    walk_at "wp"
    refine ⟨_, hs, fun p hp => ⟨⟨_, SqL.of upd_same⟩, fun D hD => ?_⟩⟩
    rw [cutV_nat] at hD ⊢
    have sp : Same H (upd H p (.lst ((xs.drop i).take (j - i)))) := same_upd hp
    have hL : SqL K (upd H p (.lst ((xs.drop i).take (j - i)))) p ((xs.drop i).take (j - i)) := SqL.of upd_same
    have hb := ((ha.same sp).drop i).take (j - i)
    rw [← List.map_drop, ← List.map_take] at hb
    generalize upd H p (.lst ((xs.drop i).take (j - i))) = Hb at sp hL hD hb ⊢
    generalize hcut : (ds.drop i).take (j - i) = cs at hb
    have hcl : cs.length ≤ 1000 := by
      rw [← hcut, List.length_take, List.length_drop]
      omega
    have hbl := hb.length
    rw [List.length_map] at hbl
    refine LcR.map walk_list ((cs.map Day.fine).map optV) hD (by rw [List.length_map, List.length_map, hbl]) (by omega) (fun H s => s.seq hL) (fun _ _ _ _ y => yat_same y) (fun i x y H0 H1 hi s1 yy hy R hR => ?_) (fun H1 s1 hH => ?_)
    · obtain ⟨rfl, hx⟩ := yy
      obtain ⟨d, hd, hxd⟩ := hb.get hx
      rw [List.getElem?_map] at hd hy
      rw [List.getElem?_map] at hy
      cases hc : cs[i]? with
      | none => rw [hc] at hd; cases hd
      | some c =>
        rw [hc] at hd hy
        cases hd
        cases hy
        obtain ⟨t, rfl, ht⟩ := (hxd.same s1).day
        walk_at "wp"
        refine ⟨_, ht, rfl, ?_⟩
        walk_at "wp"
        exact hR _ (Same.refl _)
    · have q1 := q _ (sp.trans s1)
      unfold finesL at q1
      rw [hcut] at q1
      refine ⟨_, .inl (SqL.of hH), rfl, flat_opts _, ite2 (fun h => ?_) (fun h => ?_)⟩
      · rw [sumO_none h] at q1
        exact q1
      · obtain ⟨ns, e1, e2⟩ := sumO_some (Bool.eq_false_iff.mpr h)
        rw [e2] at q1
        rw [e1] at hH
        exact ⟨ns, SqL.of hH, q1⟩
abbrev s_loaf_price : Stmt := top 30
theorem sc_loaf_price : FnScope ["good", "baked", "given", "days", "life", "want", "loaf", "keep", "fine", "fines"] ["good", "baked", "given"] (defScope s_loaf_price) := ⟨rfl, rfl, rfl, by decide +kernel, rfl, by decide +kernel, by decide +kernel⟩
def spLoafP (K : PySem.W.Frag) : Sp := fun vs H Q _ => ∃ x g, ∃ j k : Nat, vs = [x, .int (j : Int), .int (k : Int)] ∧ Th K H x (goodD g) ∧ g.days.length ≤ 1000 ∧ j < g.days.length ∧ ∀ H', Same H H' → Q (optV (loafP g j k)) H'
theorem ok_loaf_price {f : Addr} {fd : FuncData} (F : Fun K "loaf_price" "loaf_price" s_loaf_price f fd) (D_fines_of : Def P w K mg base "fines_of" 1 ["days", "first", "behind"] (spFines K)) (D_keeps_of : Def P w K mg base "keeps_of" 1 ["days", "first", "behind"] (spKeeps K)) : FnOk P w K mg base CX0 2 f fd ["good", "baked", "given"] (spLoafP K) := by
  refine F.ok sc_loaf_price (fun vs H Q E h => ?_) (fun cdv A outer s H vs Q E hr h => ?_)
  · obtain ⟨x, g, j, k, rfl, _⟩ := h
    rfl
  · obtain ⟨x, g, j, k, rfl, hx, hl, hj, q⟩ := h
    refine ⟨_, (pss_cons (ps_asg (pv 0) (pg_tup rfl (pgs_cons (pg_name (i := 3) sc_loaf_price.nd rfl (Or.inl rfl)) (pgs_cons (pg_name (i := 4) sc_loaf_price.nd rfl (Or.inl rfl)) pgs_nil))))
 (pss_cons (ps_asg (pe_ix ix_list (pv 3) (pv 1) (fun _ _ => rfl)) (pg_tup rfl (pgs_cons (pg_name (i := 5) sc_loaf_price.nd rfl (Or.inl rfl)) (pgs_cons (pg_name (i := 6) sc_loaf_price.nd rfl (Or.inl rfl)) (pgs_cons (pg_name (i := 7) sc_loaf_price.nd rfl (Or.inl rfl)) (pgs_cons (pg_name (i := 8) sc_loaf_price.nd rfl (Or.inl rfl)) pgs_nil))))))
 (pss_cons (ps_if (pt_cmpR op_gt (pv 1) (pv 2) (nomark _)) (pss_cons (ps_set (i := 9) sc_loaf_price.nd rfl (Or.inl rfl) (pe_callD D_fines_of hr (by rfl) (pa_cons (pv 3) (pa_cons (pv 2) (pa_cons (pv 1) pa_nil)))))
 (pss_one (ps_ret (pe_ifExp (pt_cmpR op_isN (pv 9) pe_non (nomark _)) pe_non (pe_op op_add (pv 6) (pv 9)))))) pss_nil)
 (pss_cons (ps_if (PW.pt (pw_and (pt_cmpR op_notN (pv 4) pe_non (nomark _)) (pw_and1 (pt_cmpR op_gt (pe_op op_sub (pv 2) (pv 1)) (pv 4) (nomark _))))) (pss_one (ps_ret pe_non)) pss_nil)
 (pss_one (ps_ret (pe_op op_add (pv 6) (pe_callD D_keeps_of hr (by rfl) (pa_cons (pv 3) (pa_cons (pv 1) (pa_cons (pv 2) pa_nil))))))))))), ?_⟩
    obtain ⟨t, a, xs, rfl, ht, hs, ha⟩ := hx.good
    have hd : g.days[j]? = some g.days[j] := List.getElem?_eq_getElem hj
    generalize g.days[j] = d at hd
    obtain ⟨v, hv, hvd⟩ := ha.get' (i := j) (d := dayD d) (by rw [List.getElem?_map, hd]; rfl)
    obtain ⟨t2, rfl, ht2⟩ := hvd.day
    walk_at "wp"
    refine ⟨_, ht, rfl, ?_⟩
    walk_at "wp"
    refine ⟨_, _, hs, atI_nat hv, ?_⟩
    walk_at "wp"
    refine ⟨_, ht2, rfl, ?_⟩
    walk_at "wp"
    refine ite2 (fun h => ?_) (fun h => ?_)
    · have hkj : k < j := by have := of_decide_eq_true h; omega
      refine ⟨_, g.days, k, j, rfl, .lst hs ha, hl, fun H1 s1 => ?_⟩
      have q1 := q H1 s1
      simp only [loafP, hd, hkj, if_true] at q1
      cases hf : finesL g.days k j with
      | none =>
        rw [hf] at q1
        simp only [optV]
        walk_at "wp"
        exact q1
      | some z =>
        rw [hf] at q1
        simp only [optV]
        walk_at "wp"
        exact q1
    · have hkj : ¬ k < j := by intro z; exact h (decide_eq_true (by omega))
      have q1 := fun H1 s1 => q H1 s1
      simp only [loafP, hd, hkj, if_false] at q1
      have hkeep : ∀ R : VK, (∀ H1, Same H H1 → R (.int (d.loaf + keepsL g.days j k)) H1) → spKeeps K [V.ref a, V.int (j : Int), V.int (k : Int)] H (fun y H2 => rI0 (fun i j => V.int (i + j)) (V.int d.loaf) y H2 R) E0 := fun R hR =>
        ⟨_, g.days, j, k, rfl, .lst hs ha, hl, fun H1 s1 => ⟨_, _, rfl, rfl, hR H1 s1⟩⟩
      cases hlf : g.life with
      | none =>
        simp only [hlf] at q1
        simp only [optV]
        walk_at "wp"
        exact hkeep Q q1
      | some l =>
        simp only [hlf] at q1
        simp only [optV]
        walk_at "wp"
        refine ite2 (fun h2 => ?_) (fun h2 => ?_)
        · have := q1 H (Same.refl _)
          rw [if_pos (of_decide_eq_true h2)] at this
          exact this
        · refine hkeep Q fun H1 s1 => ?_
          have := q1 H1 s1
          rw [if_neg (fun z => h2 (decide_eq_true z))] at this
          exact this
end
end Bk

namespace Bk
open PySem PySem.Spec PyProof.Rows L2
local macro_rules | `(tactic| walk_at "wp") => `(tactic| try simp only [tNever, tFor_eq, tLc_eq, iList, iTup, iRng1_eq, rRng1_i, iRng2_eq, rRng2_i, iEnum_eq, rEnum_r, iZip_eq, rZip_r, tSl, tPart, tNoPart, rSlL_r, rCat_r, rIn_r, gTup_r, gUnl_r, rInt1_b, rInt1_i, rRep_r, tStep_r, scal, tSeq, tNext, tAsg, tRet, tRetN, tIfS, tDrop, tCB, tCons, tNil, tVar, tOp, tUn, tC, rU_i, rI_ii, rI0_ii, rEq, rNe, tTest, tB, tAnd, tOr, tNot, tAndV, tOrV, tNotV, tIf, tChain, tLst, tTup, tBM, tBM0, rAppend_r, rIxL_r, rIxT_r, rMx_ii, rMn_ii, rLnL_r, rLnT_r, rIsD_int, rIsD_bool, rIsD_list, rIsD_tuple, tCall, gName, gNil_n, gCons_c, cxK, L2.start, List.map, List.replicate, List.length_cons, List.length_nil, List.cons_append, List.nil_append, List.append_nil, List.getElem?_cons_zero, List.getElem?_cons_succ, Option.some.injEq, exists_eq_left', exists_eq_left, V.int.injEq, V.bl.injEq, V.str.injEq, V.ref.injEq, List.cons.injEq, and_true, true_and, and_self, List.set, wipe, rAll_r, rSum_r, reduceCtorEq, decide_true, decide_false, reduceIte, ite_true, ite_false, if_true, if_false, Bool.false_eq_true, Bool.not_true, Bool.not_false])
local macro_rules | `(tactic| walk_at "shaped") => `(tactic| (simp only [SeqAt.shaped, PyData.canLay0, PyData.canLayAll0, PyData.depth, PyData.depthAll]; rfl))
local macro_rules | `(tactic| walk_at "lay") => `(tactic| (simp only [PyData.canLay0, PyData.canLayAll0]; rfl))
section
variable {P : Program} {w : World} {K : PySem.W.Frag} {mg : Str → Option Value} {base : Heap}
abbrev s_numbers : Stmt := top 70
theorem sc_numbers : FnScope ["_law_cell", "_law_salt", "_law_sizes", "_law_number", "_law_left", "_law_found", "_law_k", "_law_one"] ["_law_cell", "_law_salt", "_law_sizes"] (defScope s_numbers) := ⟨rfl, rfl, rfl, by decide +kernel, rfl, by decide +kernel, by decide +kernel⟩
/-- digits: one below each size -/
def Digs (zs fs : List Int) : Prop := fs.length = zs.length ∧ ∀ (i : Nat) (f z : Int), fs[i]? = some f → zs[i]? = some z → 0 ≤ f ∧ f < z
def spNumbers (K : PySem.W.Frag) : Sp := fun vs H Q _ => ∃ (c s : Int) (a : Addr) (zs : List Int), vs = [.int c, .int s, .ref a] ∧ SqL K H a (zs.map V.int) ∧ 0 ≤ s ∧ s ≤ 1000000 ∧ zs.length ≤ 1000 ∧ (∀ z ∈ zs, 0 < z ∧ z.natAbs < 2 ^ 200) ∧
  ∀ H' p fs, Same H H' → H p = none → Digs zs fs → H' p = some (.lst (fs.map V.int)) → Q (.ref p) H'
def NumI (H : Hp) (c s n : Int) (a p : Addr) (zs : List Int) (i : Nat) (σ : L2.St) (H' : Hp) : Prop := ∃ (l : Int) (fs : List Int) (y6 y7 : Option V), σ = [some (.int c), some (.int s), some (.ref a), some (.int n), some (.int l), some (.ref p), y6, y7] ∧ 0 ≤ l ∧ Same H H' ∧ H' p = some (.lst (fs.map V.int)) ∧ fs.length = i ∧
  ∀ (j : Nat) (f z : Int), fs[j]? = some f → zs[j]? = some z → 0 ≤ f ∧ f < z
theorem NumI.next {H H' : Hp} {c s n l x z : Int} {a p : Addr} {zs fs : List Int} {y6 y7 : Option V} (hp : H p = none) (hl : 0 ≤ l) (sm : Same H H') (hb : ∀ (j : Nat) (f z : Int), fs[j]? = some f → zs[j]? = some z → 0 ≤ f ∧ f < z) (g : zs[fs.length]? = some z) (h0 : 0 ≤ x) (h1 : x < z) :
    NumI H c s n a p zs (fs.length + 1) [some (.int c), some (.int s), some (.ref a), some (.int n), some (.int l), some (.ref p), y6, y7] (upd H' p (.lst (fs.map V.int ++ [.int x]))) := by
  refine ⟨l, fs ++ [x], y6, y7, rfl, hl, same_mut sm hp, by rw [upd_same, List.map_append]; rfl, by rw [List.length_append]; rfl, fun j f w e1 e2 => ?_⟩
  by_cases hj : j < fs.length
  · rw [List.getElem?_append_left hj] at e1
    exact hb j f w e1 e2
  · rw [List.getElem?_append_right (by omega)] at e1
    have ej : j - fs.length = 0 := by
      cases q : j - fs.length with
      | zero => rfl
      | succ m => rw [q] at e1; simp at e1
    have ej2 : j = fs.length := by omega
    subst ej2
    rw [ej] at e1
    have e3 : x = f := Option.some.inj e1
    have e4 : z = w := Option.some.inj (g.symm.trans e2)
    subst e3 e4
    exact ⟨h0, h1⟩
theorem ok_numbers {f : Addr} {fd : FuncData} {k : Nat} (F : Fun K "_law_numbers" "_law_numbers" s_numbers f fd) (B : Bi mg) : FnOk P w K mg base CX0 (k + 1) f fd ["_law_cell", "_law_salt", "_law_sizes"] (spNumbers K) := by
  refine F.ok sc_numbers (fun vs H Q E h => ?_) (fun cdv A outer s H vs Q E hr h => ?_)
  · obtain ⟨c, s, a, zs, rfl, _⟩ := h
    rfl
  · obtain ⟨c, s, a, zs, rfl, hS, hs0, hs1, hlen, hz, q⟩ := h
    refine ⟨_, (pss_cons (ps_set (i := 3) sc_numbers.nd rfl (Or.inl rfl) (pe_callB (call_mx rfl) (by rfl) B.max (by decide +kernel) (pa_cons (pv 0) (pa_cons (pe_op op_sub (pe_un un_neg pe_int) (pv 0)) pa_nil))))
 (pss_cons (ps_set (i := 4) sc_numbers.nd rfl (Or.inl rfl) (pv 3))
 (pss_cons (ps_set (i := 5) sc_numbers.nd rfl (Or.inl rfl) (pe_lst pa_nil))
 (pss_cons (ps_for PassesOwn.never rfl (pi_range1 (by rfl) B.range (pa_cons (pe_callB call_lnL (by rfl) B.len (by decide +kernel) (pa_cons (pv 2) pa_nil)) pa_nil)) (pg_name (i := 6) sc_numbers.nd rfl (Or.inl rfl)) (pss_one (ps_if (PW.pt (pw_and (pt_cmpR op_ge (pv 3) (pe_op op_pow pe_int pe_int) (nomark _)) (pw_and1 (pt_cmpR op_gt (pv 4) pe_int (nomark _))))) (pss_cons (ps_expr (pe_bm PySem.F.plainAttrs_list PySem.F.slot_list_append PySem.F.type_list_append mt_append (pv 5) (pa_cons (pe_op op_mod (pv 4) (pe_ix ix_list (pv 2) (pv 6) (fun _ _ => rfl))) pa_nil)))
 (pss_one (ps_set (i := 4) sc_numbers.nd rfl (Or.inl rfl) (pe_op op_fdivW (pv 4) (pe_ix ix_list (pv 2) (pv 6) (fun _ _ => rfl)))))) (pss_cons (ps_set (i := 7) sc_numbers.nd rfl (Or.inl rfl) (pe_op op_mod (pe_op op_pow (pe_op op_add (pe_op op_add (pe_op op_mod (pv 3) pe_int) (pe_op op_mul pe_int (pv 1))) pe_int) pe_int) pe_int))
 (pss_cons (ps_set (i := 7) sc_numbers.nd rfl (Or.inl rfl) (pe_op op_mod (pe_op op_mul (pe_op op_add (pv 7) (pe_op op_mul pe_int (pe_op op_add (pv 6) pe_int))) (pe_op op_add (pv 6) pe_int)) pe_int))
 (pss_cons (ps_set (i := 7) sc_numbers.nd rfl (Or.inl rfl) (pe_op op_mod (pe_op op_mul (pe_op op_mod (pe_op op_pow (pv 7) pe_int) pe_int) pe_int) pe_int))
 (pss_one (ps_expr (pe_bm PySem.F.plainAttrs_list PySem.F.slot_list_append PySem.F.type_list_append mt_append (pv 5) (pa_cons (pe_op op_mod (pe_op op_fdivW (pv 7) pe_int) (pe_ix ix_list (pv 2) (pv 6) (fun _ _ => rfl))) pa_nil))))))))))
 (pss_one (ps_ret (pv 5))))))), ?_⟩
    walk_at "wp"
    refine ⟨Nat.zero_le _, fun p hp => ?_⟩
    have hn0 : 0 ≤ (if -1 - c > c then -1 - c else c) := by split <;> omega
    generalize (if -1 - c > c then -1 - c else c) = n at hn0 ⊢
    refine ⟨_, hS.upd_ hp, by omega, by rw [List.length_map]; omega, ?_⟩
    rw [show (((zs.map V.int).length : Nat) : Int).toNat = zs.length by rw [List.length_map]; omega]
    refine LoopR.by walk_range (NumI H c s n a p zs) ⟨n, [], none, none, rfl, hn0, same_upd hp, upd_same, rfl, fun j f z e => by simp at e⟩ (fun _ _ _ _ _ => trivial) (fun i v σ H0 H' hi hI hY => ?_) (fun σ H' hI => ?_)
    · obtain ⟨l, fs, y6, y7, e, hl, sm, hf, hfl, hb⟩ := hI
      subst e
      obtain ⟨rfl, rfl⟩ := hY
      have g : zs[i]? = some zs[i] := List.getElem?_eq_getElem hi
      obtain ⟨hz0, hz1⟩ := hz _ (List.getElem_mem hi)
      generalize zs[i] = z at g hz0 hz1
      subst hfl
      have hA : SqL K H' a (zs.map V.int) := sm.seq hS
      have ga : atI (zs.map V.int) (0 + (fs.length : Int)) = some (.int z) := atI_map (by omega) (by rw [show (0 + (fs.length : Int)).toNat = fs.length by omega]; exact g)
      have sz : (fs.map V.int).length < sizeLine := sz100l (by rw [List.length_map]; omega)
      have hz9 : CDivW l z := wide_div hz0 hz1 (by decide) (by decide)
      walk_at "wp"
      refine ⟨⟨by decide, by decide, by decide⟩, ?_⟩
      have hB : ∀ o, SqL K (upd H' p o) a (zs.map V.int) := fun o => (same_mut sm hp).seq hS
      have p2 : NumI H c s n a p zs (fs.length + 1) [some (.int c), some (.int s), some (.ref a), some (.int n), some (.int (l / z)), some (.ref p), some (.int (0 + (fs.length : Int))), y7] (upd H' p (.lst (fs.map V.int ++ [.int (l % z)]))) :=
        NumI.next hp (Int.ediv_nonneg hl (by omega)) sm hb g (Int.emod_nonneg _ (by omega)) (Int.emod_lt_of_pos _ hz0)
      have p1 : ∀ (x : Int) (y7 : Option V), NumI H c s n a p zs (fs.length + 1) [some (.int c), some (.int s), some (.ref a), some (.int n), some (.int l), some (.ref p), some (.int (0 + (fs.length : Int))), y7] (upd H' p (.lst (fs.map V.int ++ [.int (x % z)]))) := fun x y7 =>
        NumI.next hp hl sm hb g (Int.emod_nonneg _ (by omega)) (Int.emod_lt_of_pos _ hz0)
      have m1 : 0 ≤ n % 2147483629 ∧ n % 2147483629 < 2147483629 := ⟨Int.emod_nonneg _ (by decide), Int.emod_lt_of_pos _ (by decide)⟩
      have m2 : ∀ x : Int, 0 ≤ x % 2147483629 ∧ x % 2147483629 < 2147483629 := fun x => ⟨Int.emod_nonneg _ (by decide), Int.emod_lt_of_pos _ (by decide)⟩
      have cp : ∀ x : Int, CPow (x % 2147483629) 5 := fun x => ⟨by decide, by decide, by have := m2 x; omega⟩
      have key : ∀ {R : Prop}, (∀ x : Int, ∃ xs v, SqL K H' a xs ∧ atI xs (0 + (fs.length : Int)) = some v ∧ R) → True := fun _ => trivial
      refine ite2 (fun _ => ite2 (fun _ => ?_) (fun _ => ?_)) (fun _ => ?_)
      · refine ⟨tyL (SqL.of hf), _, _, hA, ga, ?_⟩
        walk_at "wp"
        refine ⟨hz0, _, hf, sz, _, _, hB _, ga, ?_⟩
        walk_at "wp"
        exact ⟨hz9, p2⟩
      all_goals
        refine ⟨by decide, .inl ⟨by decide, by decide⟩, ⟨by decide, by decide, by omega⟩, by decide, .inl ⟨by decide, by decide⟩, .inr ⟨by omega, by omega⟩, by decide, cp _, by decide, .inr ⟨by decide, by decide⟩, by decide, tyL (SqL.of hf), wide_div (b := 10) (by decide) (by decide) (by decide) (by decide), _, _, hA, ga, ?_⟩
        walk_at "wp"
        exact ⟨hz0, _, hf, sz, p1 _ _⟩
    · obtain ⟨l, fs, y6, y7, e, hl, sm, hf, hfl, hb⟩ := hI
      subst e
      exact ⟨_, rfl, q H' p fs sm hp ⟨hfl, hb⟩ hf⟩
abbrev s_cell_at : Stmt := top 69
theorem sc_cell_at : FnScope ["_law_script", "_law_k"] ["_law_script", "_law_k"] (defScope s_cell_at) := ⟨rfl, rfl, rfl, by decide +kernel, rfl, by decide +kernel, by decide +kernel⟩
def spCellAt (K : PySem.W.Frag) : Sp := fun vs H Q _ => ∃ (a : Addr) (ns : List Int) (i : Nat), vs = [.ref a, .int (i : Int)] ∧ SqL K H a (ns.map V.int) ∧ ∀ c : Int, Q (.int c) H
theorem ok_cell_at {f : Addr} {fd : FuncData} (F : Fun K "_law_cell_at" "_law_cell_at" s_cell_at f fd) (B : Bi mg) : FnOk P w K mg base CX0 1 f fd ["_law_script", "_law_k"] (spCellAt K) := by
  refine F.ok sc_cell_at (fun vs H Q E h => ?_) (fun cdv A outer s H vs Q E hr h => ?_)
  · obtain ⟨a, ns, i, rfl, _⟩ := h
    rfl
  · obtain ⟨a, ns, i, rfl, hS, q⟩ := h
    refine ⟨_, (pss_cons (ps_if (pt_cmpR op_lt (pv 1) (pe_callB call_lnL (by rfl) B.len (by decide +kernel) (pa_cons (pv 0) pa_nil)) (nomark _)) (pss_one (ps_ret (pe_ix ix_list (pv 0) (pv 1) (fun _ _ => rfl)))) pss_nil)
 (pss_one (ps_ret pe_int))), ?_⟩
    walk_at "wp"
    refine ⟨_, hS, ite2 (fun h => ?_) (fun h => q _)⟩
    have hi : i < ns.length := by have := of_decide_eq_true h; rw [List.length_map] at this; omega
    exact ⟨_, _, hS, atI_map (by omega) (by rw [Int.toNat_natCast]; exact List.getElem?_eq_getElem hi), q _⟩
abbrev s_day : Stmt := top 71
theorem sc_day : FnScope ["_law_digits", "_law_late", "_law_want", "_law_loaf", "_law_keep", "_law_fine", "_law_light", "_law_none", "_law_far"] ["_law_digits", "_law_late"] (defScope s_day) := ⟨rfl, rfl, rfl, by decide +kernel, rfl, by decide +kernel, by decide +kernel⟩
def spDay (K : PySem.W.Frag) : Sp := fun vs H Q _ => ∃ (a : Addr) (fs zs : List Int) (late : Bool), vs = [.ref a, .bl late] ∧ SqL K H a (fs.map V.int) ∧ fs.length = 7 ∧ (∀ f ∈ fs, 0 ≤ f ∧ f ≤ 1000000000) ∧
  ∀ H' p t (d : Day) (l : Int), Same H H' → H p = none → H t = none → H' p = some (.tup [.int l, .ref t]) → H' t = some (.tup [.int d.want, .int d.loaf, .int d.keep, optV d.fine]) → numD (.int l) = true → dayB (dayD d) = true → Q (.ref p) H'
theorem numD_of {i : Int} (h : 0 ≤ i ∧ i ≤ 1000000000) : numD (.int i) = true := by
  simp only [numD, Bool.and_eq_true, decide_eq_true_eq]
  exact h
theorem ok_day {f : Addr} {fd : FuncData} (F : Fun K "_law_day" "_law_day" s_day f fd) (B : Bi mg) : FnOk P w K mg base CX0 1 f fd ["_law_digits", "_law_late"] (spDay K) := by
  refine F.ok sc_day (fun vs H Q E h => ?_) (fun cdv A outer s H vs Q E hr h => ?_)
  · obtain ⟨a, fs, zs, late, rfl, _⟩ := h
    rfl
  · obtain ⟨a, fs, zs, late, rfl, hS, h7, hb, q⟩ := h
    refine ⟨_, (pss_cons (ps_asg (pv 0) (pg_unl rfl (pgs_cons (pg_name (i := 2) sc_day.nd rfl (Or.inl rfl)) (pgs_cons (pg_name (i := 3) sc_day.nd rfl (Or.inl rfl)) (pgs_cons (pg_name (i := 4) sc_day.nd rfl (Or.inl rfl)) (pgs_cons (pg_name (i := 5) sc_day.nd rfl (Or.inl rfl)) (pgs_cons (pg_name (i := 6) sc_day.nd rfl (Or.inl rfl)) (pgs_cons (pg_name (i := 7) sc_day.nd rfl (Or.inl rfl)) (pgs_cons (pg_name (i := 8) sc_day.nd rfl (Or.inl rfl)) pgs_nil)))))))))
 (pss_one (ps_ret (pe_tup (pa_cons (pv 6) (pa_cons (pe_tup (pa_cons (pe_op op_mul (pv 2) (pe_callTy call_in1 (by rfl) B.int (by decide +kernel) (pa_cons (pe_cmpR op_gt (pv 7) pe_int (nomark _)) pa_nil))) (pa_cons (pv 3) (pa_cons (pv 4) (pa_cons (pe_ix ix_list (pe_lst (pa_cons pe_non (pa_cons (pv 5) pa_nil))) (pe_callTy call_in1 (by rfl) B.int (by decide +kernel) (pa_cons (pe_and (pv 1) (pe_one (pe_cmpR op_gt (pv 8) pe_int (nomark _)))) pa_nil)) (fun _ _ => rfl)) pa_nil))))) pa_nil)))))), ?_⟩
    obtain ⟨w1, f1, k1, n1, l1, o1, r1, rfl⟩ := seven h7
    have b1 := hb w1 (by simp)
    have b2 := hb l1 (by simp)
    have b3 := hb f1 (by simp)
    have b4 := hb k1 (by simp)
    have b5 := hb n1 (by simp)
    have fin : ∀ (H0 : Hp) (w2 : Int) (o : Option Int), Same H H0 → (w2 = w1 ∨ w2 = 0) → (o = some n1 ∨ o = none) → ∀ p, H0 p = none → ∀ p2, upd H0 p (.tup [.int w2, .int f1, .int k1, optV o]) p2 = none → Q (.ref p2) (upd (upd H0 p (.tup [.int w2, .int f1, .int k1, optV o])) p2 (.tup [.int l1, .ref p])) := by
      intro H0 w2 o S0 hw ho p hp p2 hp2
      have s2 := same_upd (o := .tup [.int l1, .ref p]) hp2
      refine q _ p2 p ⟨w2, f1, k1, o⟩ l1 ((S0.trans (same_upd hp)).trans s2) ((S0.trans (same_upd hp)).free hp2) (S0.free hp) upd_same (s2 _ _ upd_same) (numD_of b2) ?_
      have e1 : numD (.int w2) = true := by
        rcases hw with e | e
        · rw [e]
          exact numD_of b1
        · rw [e]
          rfl
      have e2 : (noneB (optD o) || numD (optD o)) = true := by
        rcases ho with e | e
        · rw [e]
          show (false || numD (.int n1)) = true
          rw [numD_of b5]
          rfl
        · rw [e]
          rfl
      simp only [dayD, dayB, e1, e2, numD_of b3, numD_of b4, Bool.and_self]
    walk_at "wp"
    refine ⟨_, hS, rfl, ?_⟩
    walk_at "wp"
    have hif : (if decide (0 < o1) = true then (1 : Int) else 0) = 1 ∨ (if decide (0 < o1) = true then (1 : Int) else 0) = 0 := by split <;> simp
    generalize (if decide (0 < o1) = true then (1 : Int) else 0) = o2 at hif ⊢
    have hw : w1 * o2 = w1 ∨ w1 * o2 = 0 := by rcases hif with e | e <;> rw [e] <;> omega
    refine ⟨.inl ⟨by omega, by omega⟩, sz100 (by decide), fun p3 h3 => ?_⟩
    generalize w1 * o2 = w2 at hw ⊢
    have S3 := same_upd (o := .lst [V.non, V.int n1]) h3
    have E3 : upd H p3 (.lst [V.non, V.int n1]) p3 = some (.lst [V.non, V.int n1]) := upd_same
    generalize upd H p3 (.lst [V.non, V.int n1]) = H3 at S3 E3 ⊢
    refine ite2 (fun h1 => ?_) (fun h1 => ?_)
    · by_cases h2 : decide (1 < r1) = true
      · rw [h2]
        walk_at "wp"
        exact ⟨_, _, SqL.of E3, atI_nat (j := 1) rfl, sz100 (by decide), fun p hp => ⟨sz100 (by decide), fun p2 hp2 => fin H3 w2 (some n1) S3 hw (.inl rfl) p hp p2 hp2⟩⟩
      · rw [Bool.eq_false_iff.mpr h2]
        walk_at "wp"
        exact ⟨_, _, SqL.of E3, atI_nat (j := 0) rfl, sz100 (by decide), fun p hp => ⟨sz100 (by decide), fun p2 hp2 => fin H3 w2 none S3 hw (.inr rfl) p hp p2 hp2⟩⟩
    · walk_at "wp"
      exact ⟨_, _, SqL.of E3, atI_nat (j := 0) rfl, sz100 (by decide), fun p hp => ⟨sz100 (by decide), fun p2 hp2 => fin H3 w2 none S3 hw (.inr rfl) p hp p2 hp2⟩⟩
end
end Bk

namespace Bk
open PySem PySem.Spec PyProof.Rows L2
local macro_rules | `(tactic| walk_at "wp") => `(tactic| try simp only [tNever, tFor_eq, tLc_eq, iList, iTup, iRng1_eq, rRng1_i, iRng2_eq, rRng2_i, iEnum_eq, rEnum_r, iZip_eq, rZip_r, tSl, tPart, tNoPart, rSlL_r, rCat_r, rIn_r, gTup_r, gUnl_r, rInt1_b, rInt1_i, rRep_r, tStep_r, scal, tSeq, tNext, tAsg, tRet, tRetN, tIfS, tDrop, tCB, tCons, tNil, tVar, tOp, tUn, tC, rU_i, rI_ii, rI0_ii, rEq, rNe, tTest, tB, tAnd, tOr, tNot, tAndV, tOrV, tNotV, tIf, tChain, tLst, tTup, tBM, tBM0, rAppend_r, rIxL_r, rIxT_r, rMx_ii, rMn_ii, rLnL_r, rLnT_r, rIsD_int, rIsD_bool, rIsD_list, rIsD_tuple, tCall, gName, gNil_n, gCons_c, cxK, L2.start, List.map, List.replicate, List.length_cons, List.length_nil, List.cons_append, List.nil_append, List.append_nil, List.getElem?_cons_zero, List.getElem?_cons_succ, Option.some.injEq, exists_eq_left', exists_eq_left, V.int.injEq, V.bl.injEq, V.str.injEq, V.ref.injEq, List.cons.injEq, and_true, true_and, and_self, List.set, wipe, rAll_r, rSum_r, reduceCtorEq, decide_true, decide_false, reduceIte, ite_true, ite_false, if_true, if_false, Bool.false_eq_true, Bool.not_true, Bool.not_false])
local macro_rules | `(tactic| walk_at "shaped") => `(tactic| (simp only [SeqAt.shaped, PyData.canLay0, PyData.canLayAll0, PyData.depth, PyData.depthAll]; rfl))
local macro_rules | `(tactic| walk_at "lay") => `(tactic| (simp only [PyData.canLay0, PyData.canLayAll0]; rfl))
section
variable {P : Program} {w : World} {K : PySem.W.Frag} {mg : Str → Option Value} {base : Heap}
abbrev s_bakery : Stmt := top 72
theorem sc_bakery : FnScope ["_law_script", "_law_upto", "_law_salt", "_law_head", "_law_sizes", "_law_lights", "_law_days", "_law_k", "_law_light", "_law_day_here"] ["_law_script", "_law_upto", "_law_salt"] (defScope s_bakery) := ⟨rfl, rfl, rfl, by decide +kernel, rfl, by decide +kernel, by decide +kernel⟩
def spBakery (K : PySem.W.Frag) : Sp := fun vs H Q _ => ∃ (a : Addr) (ns : List Int) (u : Nat) (s : Int), vs = [.ref a, .int (u : Int), .int s] ∧ SqL K H a (ns.map V.int) ∧ ns.length ≤ 63 ∧ u ≤ 41 ∧ 0 ≤ s ∧ s ≤ 10000 ∧
  ∀ (H' : Hp) (x : V) (ls : List Int) (g : Good), Same H H' → Tk (newOf H H') x (bakD ⟨ls, none, [g]⟩) → bakB (bakD ⟨ls, none, [g]⟩) = true → ls.length = nDays u ns.length → Q x H'
def livesO : List (Option Int) := [none, none, some 0, some 1, some 2, some 3, some 4, some 5, some 7, some 11, some 23, some 40]
theorem lives_at {i : Int} (h0 : 0 ≤ i) (h1 : i < 12) : ∃ o, atI (livesO.map optV) i = some (optV o) ∧ lifeB (optD o) = true := by
  have hi : i.toNat < livesO.length := by
    show i.toNat < 12
    omega
  refine ⟨livesO[i.toNat], atI_of h0 (by rw [List.getElem?_map, List.getElem?_eq_getElem hi]; rfl), ?_⟩
  have : ∀ o ∈ livesO, lifeB (optD o) = true := by decide
  exact this _ (List.getElem_mem hi)
structure BakI (K : PySem.W.Frag) (H H0 : Hp) (a pd sz L D : Addr) (u : Nat) (s : Int) (i : Nat) (σ : L2.St) (H' : Hp) : Prop where
  ex : ∃ (ls : List Int) (ds : List Day) (xs : List V) (y9 y10 y11 : Option V), σ = [some (.ref a), some (.int (u : Int)), some (.int s), some (.ref pd), some (.ref sz), some (.ref L), some (.ref D), y9, y10, y11] ∧
    Same H0 H' ∧ H' L = some (.lst (ls.map V.int)) ∧ H' D = some (.lst xs) ∧ TkAll (newBut H L D H') xs (ds.map dayD) ∧ ls.length = i ∧ ds.length = i ∧ (∀ z ∈ ls, numD (.int z) = true) ∧ (∀ z ∈ ds, dayB (dayD z) = true)
theorem ok_bakery {f : Addr} {fd : FuncData} (F : Fun K "_law_bakery" "_law_bakery" s_bakery f fd) (B : Bi mg) (D_numbers : Def P w K mg base "_law_numbers" 1 ["_law_cell", "_law_salt", "_law_sizes"] (spNumbers K)) (D_cell_at : Def P w K mg base "_law_cell_at" 1 ["_law_script", "_law_k"] (spCellAt K)) (D_day : Def P w K mg base "_law_day" 1 ["_law_digits", "_law_late"] (spDay K)) :
    FnOk P w K mg base CX0 2 f fd ["_law_script", "_law_upto", "_law_salt"] (spBakery K) := by
  refine F.ok sc_bakery (fun vs H Q E h => ?_) (fun cdv A outer s H vs Q E hr h => ?_)
  · obtain ⟨a, ns, u, s, rfl, _⟩ := h
    rfl
  · obtain ⟨a, ns, u, s, rfl, hS, hn, hu, hs0, hs1, q⟩ := h
    refine ⟨_, (pss_cons (ps_set (i := 3) sc_bakery.nd rfl (Or.inl rfl) (pe_callD D_numbers hr (by rfl) (pa_cons (pe_callD D_cell_at hr (by rfl) (pa_cons (pv 0) (pa_cons pe_int pa_nil))) (pa_cons (pv 2) (pa_cons (pe_lst (pa_cons pe_int (pa_cons pe_int (pa_cons pe_int pa_nil)))) pa_nil)))))
 (pss_cons (ps_set (i := 4) sc_bakery.nd rfl (Or.inl rfl) (pe_op op_cat (pe_ix ix_list (pe_lst (pa_cons (pe_lst (pa_cons pe_int (pa_cons pe_int (pa_cons pe_int (pa_cons pe_int (pa_cons pe_int pa_nil)))))) (pa_cons (pe_op op_rep (pe_lst (pa_cons (pe_op op_add (pe_op op_pow pe_int pe_int) pe_int) pa_nil)) pe_int) pa_nil))) (pe_callTy call_in1 (by rfl) B.int (by decide +kernel) (pa_cons (pe_cmpR op_eq (pe_ix ix_list (pv 3) pe_int (fun _ _ => rfl)) pe_int (nomark _)) pa_nil)) (fun _ _ => rfl)) (pe_lst (pa_cons pe_int (pa_cons pe_int pa_nil)))))
 (pss_cons (ps_set (i := 5) sc_bakery.nd rfl (Or.inl rfl) (pe_lst pa_nil))
 (pss_cons (ps_set (i := 6) sc_bakery.nd rfl (Or.inl rfl) (pe_lst pa_nil))
 (pss_cons (ps_for PassesOwn.never rfl (pi_range2 (by rfl) B.range (pa_cons pe_int (pa_cons (pe_callB (call_mx rfl) (by rfl) B.max (by decide +kernel) (pa_cons pe_int (pa_cons (pe_callB (call_mn rfl) (by rfl) B.min (by decide +kernel) (pa_cons (pv 1) (pa_cons (pe_callB call_lnL (by rfl) B.len (by decide +kernel) (pa_cons (pv 0) pa_nil)) pa_nil))) pa_nil))) pa_nil))) (pg_name (i := 7) sc_bakery.nd rfl (Or.inl rfl)) (pss_cons (ps_asg (pe_callD D_day hr (by rfl) (pa_cons (pe_callD D_numbers hr (by rfl) (pa_cons (pe_callD D_cell_at hr (by rfl) (pa_cons (pv 0) (pa_cons (pv 7) pa_nil))) (pa_cons (pe_op op_add (pv 2) (pv 7)) (pa_cons (pv 4) pa_nil)))) (pa_cons (pe_cmpR op_eq (pe_ix ix_list (pv 3) pe_int (fun _ _ => rfl)) pe_int (nomark _)) pa_nil))) (pg_tup rfl (pgs_cons (pg_name (i := 8) sc_bakery.nd rfl (Or.inl rfl)) (pgs_cons (pg_name (i := 9) sc_bakery.nd rfl (Or.inl rfl)) pgs_nil))))
 (pss_cons (ps_expr (pe_bm PySem.F.plainAttrs_list PySem.F.slot_list_append PySem.F.type_list_append mt_append (pv 5) (pa_cons (pv 8) pa_nil)))
 (pss_one (ps_expr (pe_bm PySem.F.plainAttrs_list PySem.F.slot_list_append PySem.F.type_list_append mt_append (pv 6) (pa_cons (pv 9) pa_nil)))))))
 (pss_one (ps_ret (pe_tup (pa_cons (pv 5) (pa_cons pe_non (pa_cons (pe_lst (pa_cons (pe_tup (pa_cons (pv 6) (pa_cons (pe_ix ix_list (pe_lst (pa_cons pe_non (pa_cons pe_non (pa_cons pe_int (pa_cons pe_int (pa_cons pe_int (pa_cons pe_int (pa_cons pe_int (pa_cons pe_int (pa_cons pe_int (pa_cons pe_int (pa_cons pe_int (pa_cons pe_int pa_nil))))))))))))) (pe_ix ix_list (pv 3) pe_int (fun _ _ => rfl)) (fun _ _ => rfl)) pa_nil))) pa_nil)) pa_nil))))))))))), ?_⟩
    walk_at "wp"
    refine ⟨a, ns, 0, rfl, hS, fun c => ⟨sz100 (by decide), fun p1 h1 => ?_⟩⟩
    refine ⟨c, s, p1, [3, 12, 2], rfl, SqL.of upd_same, hs0, by omega, by decide, by decide, fun H1 pd fs S1 hpd hD hfs => ?_⟩
    have S1 := (same_upd h1).trans S1
    obtain ⟨f0, f1, f2, rfl⟩ := three hD.1
    have b1 := hD.2 1 f1 _ rfl rfl
    have hF : SqL K H1 pd [V.int f0, V.int f1, V.int f2] := SqL.of hfs
    clear hD h1 hpd hfs
    walk_at "wp"
    refine ⟨sz100 (by decide), fun p2 h2 => ⟨⟨by decide, by decide, by decide⟩, sz100 (by decide), fun p3 h3 => ?_⟩⟩
    have S2 := same_upd (o := .lst [V.int 5, V.int 6, V.int 4, V.int 4, V.int 13]) h2
    have E2 : upd H1 p2 (.lst [V.int 5, V.int 6, V.int 4, V.int 4, V.int 13]) p2 = some (.lst ([5, 6, 4, 4, 13].map V.int)) := upd_same
    generalize upd H1 p2 (.lst [V.int 5, V.int 6, V.int 4, V.int 4, V.int 13]) = H2 at S2 E2 h3 ⊢
    have S3 := same_upd (o := .lst [V.int (10 ^ Int.toNat 9 + 1)]) h3
    have E3 : upd H2 p3 (.lst [V.int (10 ^ Int.toNat 9 + 1)]) p3 = some (.lst [V.int (10 ^ Int.toNat 9 + 1)]) := upd_same
    generalize upd H2 p3 (.lst [V.int (10 ^ Int.toNat 9 + 1)]) = H3 at S3 E3 ⊢
    refine ⟨_, E3, by decide, by decide, sz100 (by show 1 * 5 ≤ 100000; decide), fun p4 h4 => ⟨sz100 (by decide), fun p5 h5 => ?_⟩⟩
    have S4 := same_upd (o := .lst (List.replicate (Int.toNat 5) [V.int (10 ^ Int.toNat 9 + 1)]).flatten) h4
    have E4 : upd H3 p4 (.lst (List.replicate (Int.toNat 5) [V.int (10 ^ Int.toNat 9 + 1)]).flatten) p4 = some (.lst ([1000000001, 1000000001, 1000000001, 1000000001, 1000000001].map V.int)) := upd_same
    generalize upd H3 p4 (.lst (List.replicate (Int.toNat 5) [V.int (10 ^ Int.toNat 9 + 1)]).flatten) = H4 at S4 E4 h5 ⊢
    have S5 := same_upd (o := .lst [V.ref p2, V.ref p4]) h5
    have E5 : upd H4 p5 (.lst [V.ref p2, V.ref p4]) p5 = some (.lst [V.ref p2, V.ref p4]) := upd_same
    generalize upd H4 p5 (.lst [V.ref p2, V.ref p4]) = H5 at S5 E5 ⊢
    refine ⟨_, _, (S2.trans (S3.trans (S4.trans S5))).seq hF, atI_nat (j := 0) rfl, ?_⟩
    walk_at "wp"
    have hpick : ∃ (pz : Addr) (z5 : List Int), atI [V.ref p2, V.ref p4] (if decide (f0 = 0) = true then 1 else 0) = some (V.ref pz) ∧ H5 pz = some (.lst (z5.map V.int)) ∧ z5.length = 5 ∧ ∀ z ∈ z5, 0 < z ∧ z ≤ 1000000001 := by
      cases decide (f0 = 0) with
      | false => exact ⟨p2, _, rfl, (S3.trans (S4.trans S5)) _ _ E2, rfl, by decide⟩
      | true => exact ⟨p4, _, rfl, S5 _ _ E4, rfl, by decide⟩
    obtain ⟨pz, z5, hz1, hz2, hz3, hz4⟩ := hpick
    refine ⟨_, _, SqL.of E5, hz1, sz100 (by decide), fun p6 h6 => ?_⟩
    have S6 := same_upd (o := .lst [V.int 4, V.int 5]) h6
    have E6 : upd H5 p6 (.lst [V.int 4, V.int 5]) p6 = some (.lst [V.int 4, V.int 5]) := upd_same
    generalize upd H5 p6 (.lst [V.int 4, V.int 5]) = H6 at S6 E6 ⊢
    walk_at "wp"
    refine ⟨_, _, S6 _ _ hz2, E6, sz100 (by rw [List.length_map, hz3]; decide), fun p7 h7 => ?_⟩
    have S7 := same_upd (o := .lst (z5.map V.int ++ [V.int 4, V.int 5])) h7
    have E7 : upd H6 p7 (.lst (z5.map V.int ++ [V.int 4, V.int 5])) p7 = some (.lst ((z5 ++ [4, 5]).map V.int)) := by rw [upd_same, List.map_append]; rfl
    generalize upd H6 p7 (.lst (z5.map V.int ++ [V.int 4, V.int 5])) = H7 at S7 E7 ⊢
    have hz5 : ∀ z ∈ z5 ++ [4, 5], 0 < z ∧ z ≤ 1000000001 := by
      intro z hz
      rcases List.mem_append.mp hz with h | h
      · exact hz4 z h
      · have : z = 4 ∨ z = 5 := by simpa using h
        omega
    have hz6 : (z5 ++ [4, 5]).length = 7 := by rw [List.length_append, hz3]; rfl
    generalize z5 ++ [4, 5] = szs at E7 hz5 hz6
    have SA : Same H H7 := S1.trans (S2.trans (S3.trans (S4.trans (S5.trans (S6.trans S7)))))
    have SF : Same H1 H7 := S2.trans (S3.trans (S4.trans (S5.trans (S6.trans S7))))
    clear S2 S3 S4 S5 S6 S7 E2 E3 E4 E5 E6 hz1 hz2 hz3 hz4 h2 h3 h4 h5 h6 h7
    refine ⟨Nat.zero_le _, fun L hL => ⟨Nat.zero_le _, fun D hD => ?_⟩⟩
    have hLD : L ≠ D := fun z => by rw [z, upd_same] at hD; cases hD
    have hD0 : H7 D = none := (same_upd hL).free hD
    have SB : Same H7 (upd (upd H7 L (.lst [])) D (.lst [])) := (same_upd hL).trans (same_upd hD)
    have EL : upd (upd H7 L (.lst [])) D (.lst []) L = some (.lst []) := by rw [upd_ne hLD, upd_same]
    have ED : upd (upd H7 L (.lst [])) D (.lst []) D = some (.lst []) := upd_same
    generalize upd (upd H7 L (.lst [])) D (.lst []) = H8 at SB EL ED ⊢
    refine ⟨_, (SA.trans SB).seq hS, ⟨by decide, by decide, by omega, ?_⟩, ?_⟩
    · rw [List.length_map]
      split <;> split <;> omega
    · rw [List.length_map, show ((if (if (ns.length : Int) < (u : Int) then (ns.length : Int) else (u : Int)) > 2 then (if (ns.length : Int) < (u : Int) then (ns.length : Int) else (u : Int)) else 2) - 1).toNat = nDays u ns.length by unfold nDays; split <;> split <;> omega]
      refine LoopR.by walk_range (BakI K H H7 a pd p7 L D u s) ⟨⟨[], [], [], none, none, none, rfl, SB, EL, ED, .nil, rfl, rfl, (by intro _ h; cases h), (by intro _ h; cases h)⟩⟩ (fun _ _ _ _ _ => trivial) (fun i v σ H0 H' hi hI hY => ?_) (fun σ H' hI => ?_)
      · obtain ⟨rfl, rfl⟩ := hY
        obtain ⟨ls, ds, xs, y9, y10, y11, rfl, S9, E9, E10, hT, hll, hdl, hlb, hdb⟩ := hI.ex
        have hi40 : (i : Int) < 41 := by unfold nDays at hi; omega
        walk_at "wp"
        refine ⟨a, ns, 1 + i, congrArg (fun z => [V.ref a, V.int z]) (by omega), (SA.trans S9).seq hS, fun c => ?_⟩
        refine ⟨c, s + (1 + (i : Int)), p7, szs, rfl, S9.seq (SqL.of E7), by omega, by omega, by omega, fun z hz => ⟨(hz5 z hz).1, ?_⟩, fun H9 pe fs T1 hpe hDg hfs => ?_⟩
        · have := hz5 z hz
          exact Nat.lt_of_le_of_lt (show z.natAbs ≤ 1000000001 by omega) (by decide)
        walk_at "wp"
        refine ⟨_, _, ((SF.trans S9).trans T1).seq hF, atI_nat (j := 2) rfl, ?_⟩
        walk_at "wp"
        refine ⟨pe, fs, [], decide (f2 = 1), rfl, SqL.of hfs, hDg.1.trans hz6, fun f hf => ?_, fun HA p t d l T2 hp ht Ep Et hl hd => ?_⟩
        · obtain ⟨j, hj, e⟩ := List.getElem_of_mem hf
          have h1 : j < szs.length := by rw [← hDg.1]; exact hj
          have h2 := hDg.2 j f szs[j] (by rw [List.getElem?_eq_getElem hj, e]) (List.getElem?_eq_getElem h1)
          have h3 := hz5 _ (List.getElem_mem h1)
          omega
        have T3 := T1.trans T2
        have EL2 := T3 _ _ E9
        have ED2 := T3 _ _ E10
        walk_at "wp"
        refine ⟨_, SqT.of Ep, rfl, ?_⟩
        walk_at "wp"
        have ED3 : upd HA L (.lst (ls.map V.int ++ [V.int l])) D = some (.lst xs) := by rw [upd_ne hLD.symm]; exact ED2
        have szl : (ls.map V.int).length < sizeLine := sz100l (by rw [List.length_map, hll]; omega)
        have szd : xs.length < sizeLine := sz100l (by rw [hT.length, List.length_map, hdl]; omega)
        refine ⟨tyL (SqL.of EL2), _, EL2, szl, tyL (SqL.of ED3), _, ED3, szd, ⟨ls ++ [l], ds ++ [d], _, _, _, _, rfl, ?_, ?_, upd_same, ?_, ?_, ?_, ?_, ?_⟩⟩
        · exact same_mut (same_mut (S9.trans T3) hL) hD0
        · rw [upd_ne hLD, upd_same, List.map_append]
          rfl
        · have htL : t ≠ L := ne_of Et EL2 (by intro z; cases z)
          have htD : t ≠ D := ne_of Et ED2 (by intro z; cases z)
          have hnt : H t = none := ((SA.trans S9).trans T1).free ht
          rw [List.map_append]
          refine (hT.same (newBut_mono fun b o h1 h2 e => ?_)).append (.cons ?_ .nil)
          · rw [upd_ne h2, upd_ne h1]
            exact T3 _ _ e
          · have e : newBut H L D (upd (upd HA L (.lst (ls.map V.int ++ [V.int l]))) D (.lst (xs ++ [V.ref t]))) t = some (.tup [.int d.want, .int d.loaf, .int d.keep, optV d.fine]) := newBut_at hnt htL htD (by rw [upd_ne htD, upd_ne htL]; exact Et)
            exact .tup e (.cons (.int _) (.cons (.int _) (.cons (.int _) (.cons (Tk.optV _) .nil))))
        · rw [List.length_append, hll]
          rfl
        · rw [List.length_append, hdl]
          rfl
        · intro z hz
          rcases List.mem_append.mp hz with h | h
          · exact hlb z h
          · rw [List.mem_singleton.mp h]
            exact hl
        · intro z hz
          rcases List.mem_append.mp hz with h | h
          · exact hdb z h
          · rw [List.mem_singleton.mp h]
            exact hd
      · obtain ⟨ls, ds, xs, y9, y10, y11, rfl, S9, E9, E10, hT, hll, hdl, hlb, hdb⟩ := hI.ex
        walk_at "wp"
        refine ⟨sz100 (by decide), fun p3 h3 => ?_⟩
        have S3 := same_upd (o := .lst (livesO.map optV)) h3
        have E3 : upd H' p3 (.lst (livesO.map optV)) p3 = some (.lst (livesO.map optV)) := upd_same
        change ∃ xs v, SqL K (upd H' p3 (.lst (livesO.map optV))) pd xs ∧ atI xs 1 = some v ∧ rIxL K (V.ref p3) v (upd H' p3 (.lst (livesO.map optV))) _
        generalize upd H' p3 (.lst (livesO.map optV)) = H3 at S3 E3 ⊢
        refine ⟨_, _, ((SF.trans S9).trans S3).seq hF, atI_nat (j := 1) rfl, ?_⟩
        obtain ⟨o1, ho1, hob1⟩ := lives_at b1.1 b1.2
        refine ⟨p3, _, f1, _, rfl, rfl, SqL.of E3, ho1, sz100 (by decide), fun t1 ht1 => ⟨sz100 (by decide), fun g hg => ?_⟩⟩
        have S4 := same_upd (o := .tup [V.ref D, optV o1]) ht1
        have E4 : upd H3 t1 (.tup [V.ref D, optV o1]) t1 = some (.tup [V.ref D, optV o1]) := upd_same
        generalize upd H3 t1 (.tup [V.ref D, optV o1]) = H4 at S4 E4 hg ⊢
        have S5 := same_upd (o := .lst [V.ref t1]) hg
        have E5 : upd H4 g (.lst [V.ref t1]) g = some (.lst [V.ref t1]) := upd_same
        generalize upd H4 g (.lst [V.ref t1]) = H5 at S5 E5 ⊢
        refine ⟨sz100 (by decide), fun pf hpf => ?_⟩
        have S6 := same_upd (o := .tup [V.ref L, V.non, V.ref g]) hpf
        have E6 : upd H5 pf (.tup [V.ref L, V.non, V.ref g]) pf = some (.tup [V.ref L, V.non, V.ref g]) := upd_same
        generalize upd H5 pf (.tup [V.ref L, V.non, V.ref g]) = H6 at S6 E6 ⊢
        have S26 := S3.trans (S4.trans (S5.trans S6))
        have S09 := SA.trans S9
        have S06 := S09.trans S26
        have hL0 : H L = none := SA.free hL
        have hDn : H D = none := SA.free hD0
        have hg0 : H g = none := (S09.trans (S3.trans S4)).free hg
        have ht0 : H t1 = none := (S09.trans S3).free ht1
        have hf0 : H pf = none := (S09.trans (S3.trans (S4.trans S5))).free hpf
        have hd6 : Tk (newOf H H6) (.ref D) (.list (ds.map dayD)) := .lst (newOf_at hDn (S26 _ _ E10)) (hT.same ((newBut_same _ _ _ _).trans (newOf_mono S26)))
        have hl6 : Tk (newOf H H6) (.ref L) (.list (ls.map PyData.int)) := .lst (newOf_at hL0 (S26 _ _ E9)) (TkAll.ints ls)
        have hnd : 1 ≤ nDays u ns.length ∧ nDays u ns.length ≤ 40 := by unfold nDays; omega
        refine q _ _ ls ⟨ds, o1⟩ S06 ?_ ?_ hll
        · exact .tup (newOf_at hf0 E6) (.cons hl6 (.cons .non (.cons (.lst (newOf_at hg0 (S6 _ _ E5)) (.cons (.tup (newOf_at ht0 (S6 _ _ (S5 _ _ E4))) (.cons hd6 (.cons (Tk.optV o1) .nil))) .nil)) .nil)))
        · refine bakB_mk (by show 1 ≤ ls.length; omega) (by show ls.length ≤ 40; omega) hlb rfl (by show 1 ≤ 1; decide) (by show 1 ≤ 2; decide) (fun g' hg' => ?_)
          rw [List.mem_singleton.mp hg']
          exact ⟨by show ds.length = ls.length; omega, hob1, hdb⟩
end
end Bk

namespace Bk
open PySem PySem.Spec PyProof.Rows L2
local macro_rules | `(tactic| walk_at "wp") => `(tactic| try simp only [tScT2, rSetOf2_r, rSorDT_r, rSetD, tDGet2, tDGet, tDNewT, cxW, rExtend_r, rSortU_r, rSetOf_r, rSortedSet_r, rNinr_r, rNeN_r, rCatL_r, rSlT_r, rListOf_r, rIsB_b, rNotB_b, tFmtO, tJs, tOst, tCallS, WE, tRaise2, rOne_i, rSorD_r, tDNewK, Int.zero_add, tNever, tFor_eq, tLc_eq, iList, iTup, iRng1_eq, rRng1_i, iRng2_eq, rRng2_i, iEnum_eq, rEnum_r, iZip_eq, rZip_r, tSl, tPart, tNoPart, rSlL_r, rCat_r, rIn_r, rNin_r, rRepr_r, iRevR, rMin_r, rShr_i, rOdd_i, rSetL_r, gSub, rRg1_i, rRg2_i, rInr_r, tAug, ipI_ii, tLstRg, tRg1, tRg2, gTup_r, gUnl_r, rInt1_b, rInt1_i, rRep_r, tStep_r, scal, tSeq, tNext, tAsg, tRet, tRetN, tIfS, tDrop, tCB, tCons, tNil, tVar, tOp, tUn, tC, rU_i, rI_ii, rI0_ii, rEq, rNe, tTest, tB, tAnd, tOr, tNot, tAndV, tOrV, tNotV, tIf, tChain, tLst, tTup, tBM, tBM0, rAppend_r, rIxL_r, rIxT_r, rMx_ii, rMn_ii, rLnL_r, rLnT_r, rIsD_int, rIsD_bool, rIsD_list, rIsD_tuple, tCall, gName, gNil_n, gCons_c, cxK, L2.start, List.map, List.replicate, List.length_cons, List.length_nil, List.cons_append, List.nil_append, List.append_nil, List.getElem?_cons_zero, List.getElem?_cons_succ, Option.some.injEq, exists_eq_left', exists_eq_left, V.int.injEq, V.bl.injEq, V.str.injEq, V.ref.injEq, List.cons.injEq, and_true, true_and, and_self, List.set, wipe, rAll_r, rSum_r, reduceCtorEq, decide_true, decide_false, reduceIte, ite_true, ite_false, if_true, if_false, Bool.false_eq_true, Bool.not_true, Bool.not_false])
local macro_rules | `(tactic| walk_at "shaped") => `(tactic| (simp only [SeqAt.shaped, PyData.canLay0, PyData.canLayAll0, PyData.depth, PyData.depthAll]; rfl))
local macro_rules | `(tactic| walk_at "lay") => `(tactic| (simp only [PyData.canLay0, PyData.canLayAll0]; rfl))
local macro_rules | `(tactic| walk_at "wg") => `(tactic| try simp only [gName, gTup_r, gCons_c, gNil_n, cxK, List.set, List.cons.injEq, and_true, true_and, exists_eq_left', exists_eq_left, List.length_cons, List.length_nil])
section
variable {P : Program} {w : World} {K : PySem.W.Frag} {mg : Str → Option Value} {base : Heap}
abbrev s_lit_days : Stmt := top 48
theorem sc_lit_days : FnScope ["plan", "baked", "good", "given", "many"] ["plan"] (defScope s_lit_days) := ⟨rfl, rfl, rfl, by decide +kernel, rfl, by decide +kernel, by decide +kernel⟩
def spLitD (K : PySem.W.Frag) : Sp := fun vs H Q _ => ∃ x L N, vs = [x] ∧ Th K H x (planD L) ∧ (∀ r ∈ L, r.a < N) ∧ N < 60 ∧ ∀ H' q ms, Same H H' → H q = none → H' q = some (.lst ((ms : List Int).map V.int)) → ms.Pairwise (· < ·) → (∀ k : Int, k ∈ ms ↔ ∃ d ∈ L.map Row4.a, ((d : Nat) : Int) = k) → ms.length ≤ N → Q (.ref q) H'
theorem ok_lit_days {f : Addr} {fd : FuncData} (F : Fun K "lit_days" "lit_days" s_lit_days f fd) (Bs : mg "sorted" = none) : FnOk P w K mg base CX0 1 f fd ["plan"] (spLitD K) := by
  refine F.ok sc_lit_days (fun vs H Q E h => ?_) (fun cdv A outer s H vs Q E hr h => ?_)
  · obtain ⟨_, _, _, rfl, _⟩ := h
    rfl
  · obtain ⟨x, L, N, rfl, hP, hel, hN, q⟩ := h
    refine ⟨_, (pss_one (ps_ret (pe_callB (cr_sortedSet rfl) (by rfl) Bs (by decide +kernel) (pa_cons (pe_scT2 (at2 := false) rfl (pv 0) (by decide +kernel) rfl rfl rfl rfl rfl (by decide +kernel) rfl (by decide)) pa_nil)))), ?_⟩
    obtain ⟨p, zs, rfl, hp, hz2, hz3⟩ := hP.plan
    have em : (zs.map fun z => (z.1, ((z.2.a : Nat) : Int))).map (·.2) = (L.map Row4.a).map fun d => ((d : Nat) : Int) := by
      rw [← hz2, List.map_map, List.map_map, List.map_map]
      rfl
    walk_at "wp"
    refine ⟨p, zs.map fun z => (z.1, ((z.2.a : Nat) : Int)), N, rfl, by rw [List.map_map]; exact hp, fun z hz => ?_, fun z hz => ?_, hN, fun D n hD hn => ?_⟩
    · obtain ⟨y, hy, rfl⟩ := List.mem_map.mp hz
      exact ⟨_, _, _, _, hz3 y hy, rfl⟩
    · obtain ⟨y, hy, rfl⟩ := List.mem_map.mp hz
      have := hel y.2 (by rw [← hz2]; exact List.mem_map.mpr ⟨y, hy, rfl⟩)
      show 0 ≤ ((y.2.a : Nat) : Int) ∧ ((y.2.a : Nat) : Int) < (N : Int)
      omega
    rw [em]
    generalize hS : (fun j => decide (j ∈ (L.map Row4.a).map fun d => ((d : Nat) : Int))) = S
    have S1 := same_upd (o := SetO w D S n) hD
    have E1 : upd H D (SetO w D S n) D = some (SetO w D S n) := upd_same
    generalize upd H D (SetO w D S n) = H1 at S1 E1 ⊢
    walk_at "wp"
    refine ⟨_, n, E1, by omega, fun ms p3 hpw hmem hml hp3 => ?_⟩
    refine q _ _ ms (S1.trans (same_upd hp3)) (S1.free hp3) upd_same hpw (fun k => ?_) (by omega)
    rw [hmem k, ← hS, decide_eq_true_eq, List.mem_map]
abbrev s_cost_of : Stmt := top 49
theorem sc_cost_of : FnScope ["bakery", "plan", "lights", "bound", "goods", "lit", "day", "baked", "good", "given", "many"] ["bakery", "plan"] (defScope s_cost_of) := ⟨rfl, rfl, rfl, by decide +kernel, rfl, by decide +kernel, by decide +kernel⟩
def spCostOf (K : PySem.W.Frag) : Sp := fun vs H Q _ => ∃ x b y L, vs = [x, y] ∧ Th K H x (bakD b) ∧ bakB (bakD b) = true ∧ Th K H y (planD L) ∧ L.length ≤ 1000 ∧ (∀ r ∈ L, FitR b b.lights.length r) ∧ ∀ H', Same H H' → Q (.int (costB b L)) H'
theorem ok_cost_of {f : Addr} {fd : FuncData} (F : Fun K "cost_of" "cost_of" s_cost_of f fd) (B : Bi mg) (D_look_at_bakery : Def P w K mg base "look_at_bakery" 6 ["thing"] (spLook K)) (D_lit_days : Def P w K mg base "lit_days" 1 ["plan"] (spLitD K)) (D_loaf_price : Def P w K mg base "loaf_price" 2 ["good", "baked", "given"] (spLoafP K)) : FnOk P w K mg base CX0 7 f fd ["bakery", "plan"] (spCostOf K) := by
  refine F.ok sc_cost_of (fun vs H Q E h => ?_) (fun cdv A outer s H vs Q E hr h => ?_)
  · obtain ⟨_, _, _, _, rfl, _⟩ := h
    rfl
  · obtain ⟨x, b, y, L, rfl, hx, hb, hP, hLl, hF, q⟩ := h
    refine ⟨_, (pss_cons (ps_expr (pe_callD D_look_at_bakery hr (by rfl) (pa_cons (pv 0) pa_nil)))
 (pss_cons (ps_asg (pv 0) (pg_tup rfl (pgs_cons (pg_name (i := 2) sc_cost_of.nd rfl (Or.inr rfl)) (pgs_cons (pg_name (i := 3) sc_cost_of.nd rfl (Or.inl rfl)) (pgs_cons (pg_name (i := 4) sc_cost_of.nd rfl (Or.inr rfl)) pgs_nil)))))
 (pss_cons (ps_set (i := 5) sc_cost_of.nd rfl (Or.inl rfl) (pe_callB (cr_sum rfl) (by rfl) B.sum (by decide +kernel) (pa_cons (pe_lc (own := [("day", 6)]) (g := (gName 6)) (te := (tOp (rIxL K) _ _)) rfl sc_cost_of.nd (pi_list (pe_callD D_lit_days hr (by rfl) (pa_cons (pv 1) pa_nil))) (blkOk_by (own := [("day", 6)]) (N := ["bakery", "plan", "lights", "bound", "goods", "lit", "day", "baked", "good", "given", "many"]) (sc := defScope s_cost_of) (by decide +kernel)) (fun _ _ _ _ _ => (pg_name (i := 6) sc_cost_of.nd rfl (Or.inl rfl))) (fun _ _ _ _ _ => pts_nil) (fun _ _ _ _ _ => (pe_ix ix_list (pv 2) (pv 6) (fun _ _ => rfl)))) pa_nil)))
 (pss_one (ps_ret (pe_op op_add (pv 5) (pe_callB (cr_sum rfl) (by rfl) B.sum (by decide +kernel) (pa_cons (pe_lc (own := [("baked", 7), ("good", 8), ("given", 9), ("many", 10)]) (g := (gTup K 4 (gCons (gName 7) (gCons (gName 8) (gCons (gName 9) (gCons (gName 10) gNil)))))) (te := (tOp _ _ (tCall _ _ _ (tCons (tOp (rIxL K) _ _) (tCons _ (tCons _ tNil)))))) rfl sc_cost_of.nd (pi_list (pv 1)) (blkOk_by (own := [("baked", 7), ("good", 8), ("given", 9), ("many", 10)]) (N := ["bakery", "plan", "lights", "bound", "goods", "lit", "day", "baked", "good", "given", "many"]) (sc := defScope s_cost_of) (by decide +kernel)) (fun _ _ _ _ _ => (pg_tup rfl (pgs_cons (pg_name (i := 7) sc_cost_of.nd rfl (Or.inl rfl)) (pgs_cons (pg_name (i := 8) sc_cost_of.nd rfl (Or.inl rfl)) (pgs_cons (pg_name (i := 9) sc_cost_of.nd rfl (Or.inl rfl)) (pgs_cons (pg_name (i := 10) sc_cost_of.nd rfl (Or.inl rfl)) pgs_nil)))))) (fun _ _ _ _ _ => pts_nil) (fun _ _ _ _ _ => (pe_op op_mul (pv 10) (pe_callD D_loaf_price hr (by rfl) (pa_cons (pe_ix ix_list (pv 4) (pv 8) (fun _ _ => rfl)) (pa_cons (pv 7) (pa_cons (pv 9) pa_nil))))))) pa_nil)))))))), ?_⟩
    obtain ⟨⟨c1, c2⟩, c3, _, _, c7⟩ := bak_parts hb
    walk_at "wp"
    refine ⟨_, _, rfl, hx, hb, fun H1 S1 => ?_⟩
    obtain ⟨a, l, v2, ga, xl, xg, rfl, ht, hl, hla, h2, hgl, hga⟩ := Th.bak (hx.same S1)
    have hxl : xl = b.lights.map V.int := hla.intsV
    walk_at "wp"
    refine ⟨_, ht, rfl, ?_⟩
    walk_at "wp"
    refine ⟨y, L, b.lights.length, rfl, hP.same S1, fun r hr => (hF r hr).a, by omega, fun H2 p2 ms S2 _ hp2 hpw hmem hml => ?_⟩
    have hmk : ∀ k ∈ ms, ∃ d : Nat, k = (d : Int) ∧ d < b.lights.length := fun k hk => by
      obtain ⟨d, hd, rfl⟩ := (hmem k).mp hk
      obtain ⟨r, hr, rfl⟩ := List.mem_map.mp hd
      exact ⟨r.a, rfl, (hF r hr).a⟩
    walk_at "wp"
    refine ⟨⟨_, SqL.of hp2⟩, fun D4 hD4 => ?_⟩
    refine LcR.map (walk_list (xs := ms.map V.int)) ((ms.map fun k => rowF b.lights k.toNat).map V.int) hD4 (by rw [List.length_map, List.length_map, List.length_map]) (by rw [List.length_map]; omega) (fun H s => s.seq (SqL.of hp2)) (fun _ _ _ _ y => yat_same y) (fun i x y H0 H4 hi s4 yy hy R hR2 => ?_) (fun H4 s4 hH4 => ?_)
    · obtain ⟨rfl, hxi⟩ := yy
      rw [List.length_map] at hi
      rw [List.getElem?_map, List.getElem?_eq_getElem hi] at hxi
      rw [List.getElem?_map, List.getElem?_map, List.getElem?_eq_getElem hi] at hy
      cases hxi
      cases hy
      obtain ⟨d, ed, hdl⟩ := hmk _ (List.getElem_mem hi)
      generalize ms[i] = k at ed hR2 ⊢
      subst ed
      walk_at "wp"
      refine ⟨_, _, (S2.trans s4).seq hl, by rw [hxl]; exact atI_nat (rowF_get hdl), ?_⟩
      have := hR2 _ (Same.refl _)
      dsimp only at this
      rw [Int.toNat_natCast] at this
      exact this
    · have hsum : (ms.map fun k => rowF b.lights k.toNat).sum = litR (rowF b.lights) b.lights.length (L.map Row4.a) := lit_ints hpw hmem fun d hd => by
        obtain ⟨r, hr, rfl⟩ := List.mem_map.mp hd
        exact (hF r hr).a
      have S14 := S1.trans (S2.trans s4)
      obtain ⟨p, zs, rfl, hp, hz2, hz3⟩ := (hP.same S14).plan
      have hzl : zs.length = L.length := by rw [← hz2, List.length_map]
      walk_at "wp"
      refine ⟨_, SqL.of hH4, ?_⟩
      rw [hsum]
      walk_at "wp"
      refine ⟨⟨_, hp⟩, fun D5 hD5 => ?_⟩
      refine LcR.map (walk_list (xs := zs.map fun z => V.ref z.1)) ((zs.map fun z => z.2.m * priceB b z.2.k).map V.int) hD5 (by rw [List.length_map, List.length_map, List.length_map]) (by rw [List.length_map]; omega) (fun H s => s.seq hp) (fun _ _ _ _ y => yat_same y) (fun i x y H0 H5 hi s5 yy hy R hR2 => ?_) (fun H5 s5 hH5 => ?_)
      · obtain ⟨rfl, hxi⟩ := yy
        rw [List.length_map] at hi
        rw [List.getElem?_map, List.getElem?_eq_getElem hi] at hxi
        rw [List.getElem?_map, List.getElem?_map, List.getElem?_eq_getElem hi] at hy
        cases hxi
        cases hy
        have hzm := List.getElem_mem hi
        generalize zs[i] = z at hzm hR2 ⊢
        have h3 := hz3 z hzm
        have hf := hF z.2 (by rw [← hz2]; exact List.mem_map.mpr ⟨z, hzm, rfl⟩)
        obtain ⟨g, hg, pz, hpz⟩ := hf.p
        have hgm : g ∈ b.goods := List.mem_of_getElem? hg
        obtain ⟨c8, c9, hok⟩ := c7 g hgm
        obtain ⟨vg, hv, hvg⟩ := hga.get' (i := z.2.b) (d := goodD g) (by rw [List.getElem?_map, hg]; rfl)
        have hka := hf.a
        have hkc := hf.c
        walk_at "wp"
        refine ⟨_, Same.tup s5 h3, rfl, ?_⟩
        walk_at "wp"
        refine ⟨_, _, ((S2.trans s4).trans s5).seq hgl, atI_nat (j := z.2.b) hv, ?_⟩
        refine ⟨_, g, z.2.a, z.2.c, rfl, hvg.same ((S2.trans s4).trans s5), by omega, by omega, fun H6 S6 => ?_⟩
        have ep : priceB b z.2.k = pz := by
          unfold priceB Row4.k
          simp only [hg, hpz]
          rfl
        dsimp only at hR2
        rw [ep] at hR2
        rw [hpz]
        simp only [optV]
        walk_at "wp"
        exact ⟨.inl ⟨by have := hf.m; omega, by have := hf.m; omega⟩, hR2 _ S6⟩
      · walk_at "wp"
        refine ⟨_, SqL.of hH5, ?_⟩
        walk_at "wp"
        have hle : (zs.map fun z => z.2.m * priceB b z.2.k).sum = sumR (priceB b) L := by
          unfold sumR
          rw [← hz2, List.map_map]
          rfl
        rw [hle]
        exact q _ (S14.trans s5)
end
end Bk

namespace Bk
open PySem PySem.Spec PyProof.Rows L2
local macro_rules | `(tactic| walk_at "wp") => `(tactic| try simp only [tScT2, rSetOf2_r, rSorDT_r, rSetD, tDGet2, tDGet, tDNewT, cxW, rExtend_r, rSortU_r, rSetOf_r, rSortedSet_r, rNinr_r, rNeN_r, rCatL_r, rSlT_r, rListOf_r, rIsB_b, rNotB_b, tFmtO, tJs, tOst, tCallS, WE, tRaise2, rOne_i, rSorD_r, tDNewK, Int.zero_add, tNever, tFor_eq, tLc_eq, iList, iTup, iRng1_eq, rRng1_i, iRng2_eq, rRng2_i, iEnum_eq, rEnum_r, iZip_eq, rZip_r, tSl, tPart, tNoPart, rSlL_r, rCat_r, rIn_r, rNin_r, rRepr_r, iRevR, rMin_r, rShr_i, rOdd_i, rSetL_r, gSub, rRg1_i, rRg2_i, rInr_r, tAug, ipI_ii, tLstRg, tRg1, tRg2, gTup_r, gUnl_r, rInt1_b, rInt1_i, rRep_r, tStep_r, scal, tSeq, tNext, tAsg, tRet, tRetN, tIfS, tDrop, tCB, tCons, tNil, tVar, tOp, tUn, tC, rU_i, rI_ii, rI0_ii, rEq, rNe, tTest, tB, tAnd, tOr, tNot, tAndV, tOrV, tNotV, tIf, tChain, tLst, tTup, tBM, tBM0, rAppend_r, rIxL_r, rIxT_r, rMx_ii, rMn_ii, rLnL_r, rLnT_r, rIsD_int, rIsD_bool, rIsD_list, rIsD_tuple, tCall, gName, gNil_n, gCons_c, cxK, L2.start, List.map, List.replicate, List.length_cons, List.length_nil, List.cons_append, List.nil_append, List.append_nil, List.getElem?_cons_zero, List.getElem?_cons_succ, Option.some.injEq, exists_eq_left', exists_eq_left, V.int.injEq, V.bl.injEq, V.str.injEq, V.ref.injEq, List.cons.injEq, and_true, true_and, and_self, List.set, wipe, rAll_r, rSum_r, reduceCtorEq, decide_true, decide_false, reduceIte, ite_true, ite_false, if_true, if_false, Bool.false_eq_true, Bool.not_true, Bool.not_false])
local macro_rules | `(tactic| walk_at "shaped") => `(tactic| (simp only [SeqAt.shaped, PyData.canLay0, PyData.canLayAll0, PyData.depth, PyData.depthAll]; rfl))
local macro_rules | `(tactic| walk_at "lay") => `(tactic| (simp only [PyData.canLay0, PyData.canLayAll0]; rfl))
local macro_rules | `(tactic| walk_at "wg") => `(tactic| try simp only [gName, gTup_r, gCons_c, gNil_n, cxK, List.set, List.cons.injEq, and_true, true_and, exists_eq_left', exists_eq_left, List.length_cons, List.length_nil])
section
variable {P : Program} {w : World} {K : PySem.W.Frag} {mg : Str → Option Value} {base : Heap}
abbrev s_is_plain : Stmt := top 24
theorem sc_is_plain : FnScope ["bakery", "lights", "bound", "goods"] ["bakery"] (defScope s_is_plain) := ⟨rfl, rfl, rfl, by decide +kernel, rfl, by decide +kernel, by decide +kernel⟩
def spPlain (K : PySem.W.Frag) (r : V) : Sp := fun vs H Q _ => ∃ x b, vs = [x] ∧ Th K H x (bakD b) ∧ bakB (bakD b) = true ∧ b.bound = none ∧ b.goods.length = 1 ∧ ∀ H', Same H H' → Q r H'
theorem ok_is_plain {f : Addr} {fd : FuncData} (F : Fun K "is_plain" "is_plain" s_is_plain f fd) (B : Bi mg) (D_look_at_bakery : Def P w K mg base "look_at_bakery" 6 ["thing"] (spLook K)) : FnOk P w K mg base CX0 7 f fd ["bakery"] (spPlain K (.bl true)) := by
  refine F.ok sc_is_plain (fun vs H Q E h => ?_) (fun cdv A outer s H vs Q E hr h => ?_)
  · obtain ⟨x, b, rfl, _⟩ := h
    rfl
  · obtain ⟨x, b, rfl, hx, hb, hbo, hg, q⟩ := h
    refine ⟨_, (pss_cons (ps_expr (pe_callD D_look_at_bakery hr (by rfl) (pa_cons (pv 0) pa_nil)))
 (pss_cons (ps_asg (pv 0) (pg_tup rfl (pgs_cons (pg_name (i := 1) sc_is_plain.nd rfl (Or.inl rfl)) (pgs_cons (pg_name (i := 2) sc_is_plain.nd rfl (Or.inl rfl)) (pgs_cons (pg_name (i := 3) sc_is_plain.nd rfl (Or.inl rfl)) pgs_nil)))))
 (pss_one (ps_ret (pe_and (pe_cmpR op_isN (pv 2) pe_non (nomark _)) (pe_one (pe_cmpR op_eq (pe_callB call_lnL (by rfl) B.len (by decide +kernel) (pa_cons (pv 3) pa_nil)) pe_int (nomark _)))))))), ?_⟩
    walk_at "wp"
    refine ⟨_, _, rfl, hx, hb, fun H1 s1 => ?_⟩
    obtain ⟨a, l, v2, ga, xl, xg, rfl, ht, hl, hla, h2, hgl, hga⟩ := Th.bak (hx.same s1)
    have e2 := h2.opt
    rw [hbo] at e2
    have e2 : v2 = .non := e2
    subst e2
    walk_at "wp"
    refine ⟨_, ht, rfl, ?_⟩
    walk_at "wp"
    refine ⟨_, hgl, ?_⟩
    have hn := hga.length
    rw [List.length_map] at hn
    rw [hn, hg]
    exact q _ s1
abbrev s_look_at_plain : Stmt := top 25
theorem sc_look_at_plain : FnScope ["bakery"] ["bakery"] (defScope s_look_at_plain) := ⟨rfl, rfl, rfl, by decide +kernel, rfl, by decide +kernel, by decide +kernel⟩
theorem ok_look_at_plain {f : Addr} {fd : FuncData} (F : Fun K "look_at_plain" "look_at_plain" s_look_at_plain f fd) (D_is_plain : Def P w K mg base "is_plain" 7 ["bakery"] (spPlain K (.bl true))) : FnOk P w K mg base CX0 8 f fd ["bakery"] (spPlain K .non) := by
  refine F.ok sc_look_at_plain (fun vs H Q E h => ?_) (fun cdv A outer s H vs Q E hr h => ?_)
  · obtain ⟨x, b, rfl, _⟩ := h
    rfl
  · obtain ⟨x, b, rfl, hx, hb, hbo, hg, q⟩ := h
    refine ⟨_, (pss_one (ps_if (pt_not (pt_val (pe_callD D_is_plain hr (by rfl) (pa_cons (pv 0) pa_nil)))) (pss_one ps_never) pss_nil)), ?_⟩
    walk_at "wp"
    refine ⟨_, _, rfl, hx, hb, hbo, hg, fun H1 s1 => ?_⟩
    walk_at "wp"
    exact q _ s1
abbrev s_least_baked_on : Stmt := top 34
theorem sc_least_baked_on : FnScope ["row", "light", "prices", "many", "least", "cost", "first"] ["row", "light", "prices", "many"] (defScope s_least_baked_on) := ⟨rfl, rfl, rfl, by decide +kernel, rfl, by decide +kernel, by decide +kernel⟩
def spLbo (K : PySem.W.Frag) : Sp := fun vs H Q _ => ∃ (ra pa : Addr) (xs ys : List V) (row : Nat → Int) (wf : Nat → Option Int) (light : Int) (m : Nat), vs = [.ref ra, .int light, .ref pa, .int (m : Int)] ∧ SqL K H ra xs ∧ SqL K H pa ys ∧ (∀ i, i < m → xs[i]? = some (.int (row i))) ∧ (∀ i, i < m → ys[i]? = some (optV (wf i))) ∧ m ≤ 1000 ∧ Q (optV (lbo row wf m light none)) H
def LbI (ra pa : Addr) (light : Int) (row : Nat → Int) (wf : Nat → Option Int) (m : Nat) (H : Hp) (i : Nat) (σ : L2.St) (H' : Hp) : Prop := H' = H ∧ ∃ (c : Int) (l : Option Int) (y : Option V), σ = [some (.ref ra), some (.int light), some (.ref pa), some (.int (m : Int)), some (optV l), some (.int c), y] ∧ lbo row wf (m - i) c l = lbo row wf m light none
theorem ok_least_baked_on {f : Addr} {fd : FuncData} (F : Fun K "least_baked_on" "least_baked_on" s_least_baked_on f fd) (B : Bi mg) (Br : mg "reversed" = none) : FnOk P w K mg base CX0 1 f fd ["row", "light", "prices", "many"] (spLbo K) := by
  refine F.ok sc_least_baked_on (fun vs H Q E h => ?_) (fun cdv A outer s H vs Q E hr h => ?_)
  · obtain ⟨_, _, _, _, _, _, _, _, rfl, _⟩ := h
    rfl
  · obtain ⟨ra, pa, xs, ys, row, wf, light, m, rfl, hra, hpa, hx, hy, hm, q⟩ := h
    refine ⟨_, (pss_cons (ps_set (i := 4) sc_least_baked_on.nd rfl (Or.inl rfl) pe_non)
 (pss_cons (ps_set (i := 5) sc_least_baked_on.nd rfl (Or.inl rfl) (pv 1))
 (pss_cons (ps_for PassesOwn.never rfl (pi_revR (by rfl) Br (prg_1 (by rfl) B.range (pv 3))) (pg_name (i := 6) sc_least_baked_on.nd rfl (Or.inl rfl)) (pss_cons (ps_if (pt_cmpR op_isN (pe_ix ix_list (pv 2) (pv 6) (fun _ _ => rfl)) pe_non (nomark _)) (pss_one (ps_ret (pv 4))) pss_nil)
 (pss_cons (ps_aug (i := 5) sc_least_baked_on.nd rfl (Or.inl rfl) (pe_ix ix_list (pv 2) (pv 6) (fun _ _ => rfl)) ip_add)
 (pss_one (ps_if (PW.pt (pw_or (pt_cmpR op_isN (pv 4) pe_non (nomark _)) (pw_or1 (pt_cmpR op_lt (pe_op op_add (pe_ix ix_list (pv 0) (pv 6) (fun _ _ => rfl)) (pv 5)) (pv 4) (nomark _))))) (pss_one (ps_set (i := 4) sc_least_baked_on.nd rfl (Or.inl rfl) (pe_op op_add (pe_ix ix_list (pv 0) (pv 6) (fun _ _ => rfl)) (pv 5)))) pss_nil)))))
 (pss_one (ps_ret (pv 4)))))), ?_⟩
    walk_at "wp"
    refine ⟨by omega, by omega, by omega, by omega, ?_⟩
    rw [show ((m : Int) - 0).toNat = m by omega]
    refine LoopR.by walk_rangeC (LbI ra pa light row wf m H) ⟨rfl, light, none, none, rfl, rfl⟩ (fun _ _ _ _ _ => trivial) (fun i v σ H0 H2 hi hI hY => ?_) (fun σ H2 hI => ?_)
    · obtain ⟨rfl, rfl⟩ := hY
      obtain ⟨rfl, c, l, y, rfl, hl⟩ := hI
      have ej : (m : Int) - 1 + (i : Int) * -1 = ((m - (i + 1) : Nat) : Int) := by omega
      dsimp only
      rw [ej]
      have hlt : m - (i + 1) < m := by omega
      have h1 := hx _ hlt
      have h2 := hy _ hlt
      rw [show m - i = (m - (i + 1)) + 1 by omega] at hl
      have eI : ∀ σ, (∃ (c : Int) (l : Option Int) (y : Option V), σ = [some (.ref ra), some (.int light), some (.ref pa), some (.int (m : Int)), some (optV l), some (.int c), y] ∧ lbo row wf (m - (i + 1)) c l = lbo row wf m light none) → LbI ra pa light row wf m H2 (i + 1) σ H2 := fun σ h => ⟨rfl, h⟩
      generalize LbI ra pa light row wf m H2 (i + 1) = NX at eI ⊢
      generalize m - (i + 1) = j at h1 h2 hl hlt eI ⊢
      walk_at "wp"
      refine ⟨_, _, hpa, atI_nat h2, ?_⟩
      generalize lbo row wf m light none = L at q hl eI
      unfold lbo at hl
      cases hw : wf j with
      | none =>
        rw [hw] at hl
        simp only [optV]
        walk_at "wp"
        have hl : l = L := hl
        rw [← hl] at q
        exact q
      | some p =>
        rw [hw] at hl h2
        dsimp only at hl
        simp only [optV]
        walk_at "wp"
        refine ⟨_, _, hpa, atI_nat h2, ?_⟩
        simp only [optV]
        walk_at "wp"
        cases l with
        | none =>
          simp only [optV]
          walk_at "wp"
          refine ⟨_, _, hra, atI_nat h1, ?_⟩
          walk_at "wp"
          exact eI _ ⟨_, some _, _, rfl, hl⟩
        | some l0 =>
          dsimp only at hl
          simp only [optV]
          walk_at "wp"
          refine ⟨_, _, hra, atI_nat h1, ?_⟩
          walk_at "wp"
          refine ite2 (fun h => ?_) (fun h => ?_)
          · rw [if_pos (of_decide_eq_true h)] at hl
            refine ⟨_, _, hra, atI_nat h1, ?_⟩
            walk_at "wp"
            exact eI _ ⟨_, some _, _, rfl, hl⟩
          · rw [if_neg (fun z => h (decide_eq_true z))] at hl
            exact eI _ ⟨_, some _, _, rfl, hl⟩
    · obtain ⟨rfl, c, l, y, rfl, hl⟩ := hI
      rw [Nat.sub_self] at hl
      have hl : l = lbo row wf m light none := hl
      rw [← hl] at q
      walk_at "wp"
      exact q
abbrev s_least_of : Stmt := top 35
theorem sc_least_of : FnScope ["row", "lights", "table", "many", "ovens", "costs", "baked", "cost"] ["row", "lights", "table", "many", "ovens"] (defScope s_least_of) := ⟨rfl, rfl, rfl, by decide +kernel, rfl, by decide +kernel, by decide +kernel⟩
def spLeastOf (K : PySem.W.Frag) : Sp := fun vs H Q _ => ∃ (ra la ta oa : Addr) (xs zs ts : List V) (row lights : Nat → Int) (wf : Nat → Nat → Option Int) (m c : Nat), vs = [.ref ra, .ref la, .ref ta, .int ((m + 1 : Nat) : Int), .ref oa] ∧ SqL K H ra xs ∧ SqL K H la zs ∧ SqL K H ta ts ∧ SqL K H oa ((List.range c).map fun j : Nat => V.int (j : Int)) ∧ (∀ i, i < m + 1 → xs[i]? = some (.int (row i))) ∧ (∀ i, i < c → zs[i]? = some (.int (lights i))) ∧
  (∀ j, j < c → ∃ p ys, ts[j]? = some (.ref p) ∧ SqL K H p ys ∧ ∀ i, i < m + 1 → ys[i]? = some (optV (wf j i))) ∧ m < 1000 ∧ c ≤ 1000 ∧ (∃ u, ChC row lights wf c m u) ∧ ∀ v H', Same H H' → ChC row lights wf c m v → (∀ u, ChC row lights wf c m u → v ≤ u) → Q (.int v) H'
theorem ok_least_of {f : Addr} {fd : FuncData} (F : Fun K "least_of" "least_of" s_least_of f fd) (B : Bi mg) (D_least_baked_on : Def P w K mg base "least_baked_on" 1 ["row", "light", "prices", "many"] (spLbo K)) : FnOk P w K mg base CX0 2 f fd ["row", "lights", "table", "many", "ovens"] (spLeastOf K) := by
  refine F.ok sc_least_of (fun vs H Q E h => ?_) (fun cdv A outer s H vs Q E hr h => ?_)
  · obtain ⟨_, _, _, _, _, _, _, _, _, _, _, _, rfl, _⟩ := h
    rfl
  · obtain ⟨ra, la, ta, oa, xs, zs, ts, row, lights, wf, m, c, rfl, hra, hla, hta, hoa, hx, hz, ht, hm, hc, hex, q⟩ := h
    refine ⟨_, (pss_cons (ps_setLc (i := 5) (own := [("baked", 6)]) (g := (gName 6)) (te := (tCall _ _ _ (tCons _ (tCons (tOp (rIxL K) _ _) (tCons (tOp (rIxL K) _ _) (tCons _ tNil)))))) rfl sc_least_of.nd rfl rfl (sw_true rfl rfl rfl (by decide +kernel)) (pi_list (pv 4)) (blkOk_by (own := [("baked", 6)]) (N := ["row", "lights", "table", "many", "ovens", "costs", "baked", "cost"]) (sc := defScope s_least_of) (by decide +kernel)) (fun _ _ _ _ _ => (pg_name (i := 6) sc_least_of.nd rfl (Or.inl rfl))) (fun _ _ _ _ _ => pts_nil) (fun _ _ _ _ _ => (pe_callD D_least_baked_on hr (by rfl) (pa_cons (pv 0) (pa_cons (pe_ix ix_list (pv 1) (pv 6) (fun _ _ => rfl)) (pa_cons (pe_ix ix_list (pv 2) (pv 6) (fun _ _ => rfl)) (pa_cons (pv 3) pa_nil)))))))
 (pss_one (ps_ret (pe_callB (cr_min rfl) (by rfl) B.min (by decide +kernel) (pa_cons (pe_lc (own := [("cost", 7)]) (g := (gName 7)) rfl sc_least_of.nd (pi_list (pv 5)) (blkOk_by (own := [("cost", 7)]) (N := ["row", "lights", "table", "many", "ovens", "costs", "baked", "cost"]) (sc := defScope s_least_of) (by decide +kernel)) (fun _ _ _ _ _ => (pg_name (i := 7) sc_least_of.nd rfl (Or.inl rfl))) (fun _ _ _ _ _ => (pts_one (pt_cmpR op_notN (pv 7) pe_non (nomark _)))) (fun _ _ _ _ _ => (pv 7))) pa_nil))))), ?_⟩
    walk_at "wp"
    refine ⟨⟨_, hoa⟩, fun D hD => ?_⟩
    refine LcR.map (walk_list (xs := (List.range c).map fun j : Nat => V.int (j : Int))) ((lbos row lights wf m c).map optV) hD (by unfold lbos; rw [List.length_map, List.length_map, List.length_range, List.length_map, List.length_range]) (by rw [List.length_map, List.length_range]; omega) (fun H s => s.seq hoa) (fun _ _ _ _ y => yat_same y) (fun n v y H0 H4 hn s4 yy hy R hR => ?_) (fun H4 s4 hH => ?_)
    · obtain ⟨rfl, hv⟩ := yy
      rw [List.length_map, List.length_range] at hn
      rw [List.getElem?_map, List.getElem?_range hn] at hv
      cases hv
      unfold lbos at hy
      rw [List.getElem?_map, List.getElem?_map, List.getElem?_range hn] at hy
      cases hy
      obtain ⟨p, ys, e1, e2, e3⟩ := ht n hn
      walk_at "wp"
      refine ⟨_, _, s4.seq hla, atI_nat (hz n hn), _, _, s4.seq hta, atI_nat e1, ?_⟩
      exact ⟨_, _, _, _, row, wf n, lights n, m + 1, rfl, s4.seq hra, s4.seq e2, hx, e3, by omega, hR _ (Same.refl _)⟩
    · walk_at "wp"
      refine ⟨⟨_, SqL.of hH⟩, fun D2 hD2 => ?_⟩
      refine LcR.opts (lbos row lights wf m c) hD2 (SqL.of hH) (by unfold lbos; rw [List.length_map, List.length_range]; omega) (fun o H5 _ _ N M h1 h2 => ?_) (fun H5 s5 hH5 => ?_)
      · cases o with
        | none =>
          simp only [optV]
          walk_at "wp"
          exact h1 rfl
        | some z =>
          simp only [optV]
          walk_at "wp"
          exact h2 z rfl
      · obtain ⟨u, hu⟩ := hex
        obtain ⟨v0, hv0, _⟩ := lbos_least hu
        refine ⟨_, SqL.of hH5, List.length_pos_of_mem hv0, fun v hv hmin => q v _ (s4.trans s5) (lbos_mem hv) fun u hu => ?_⟩
        obtain ⟨v1, hv1, hle⟩ := lbos_least hu
        have := hmin _ hv1
        omega
abbrev s_is_unwanted : Stmt := top 36
theorem sc_is_unwanted : FnScope ["good", "day", "days", "life", "want", "loaf", "keep", "fine"] ["good", "day"] (defScope s_is_unwanted) := ⟨rfl, rfl, rfl, by decide +kernel, rfl, by decide +kernel, by decide +kernel⟩
def spUnw (K : PySem.W.Frag) : Sp := fun vs H Q _ => ∃ x g d, ∃ k : Nat, vs = [x, .int (k : Int)] ∧ Th K H x (goodD g) ∧ g.days[k]? = some d ∧ Q (.bl (decide (d.want = 0))) H
theorem ok_is_unwanted {f : Addr} {fd : FuncData} (F : Fun K "is_unwanted" "is_unwanted" s_is_unwanted f fd) : FnOk P w K mg base CX0 1 f fd ["good", "day"] (spUnw K) := by
  refine F.ok sc_is_unwanted (fun vs H Q E h => ?_) (fun cdv A outer s H vs Q E hr h => ?_)
  · obtain ⟨x, g, d, k, rfl, _⟩ := h
    rfl
  · obtain ⟨x, g, d, k, rfl, hx, hd, q⟩ := h
    refine ⟨_, (pss_cons (ps_asg (pv 0) (pg_tup rfl (pgs_cons (pg_name (i := 2) sc_is_unwanted.nd rfl (Or.inl rfl)) (pgs_cons (pg_name (i := 3) sc_is_unwanted.nd rfl (Or.inl rfl)) pgs_nil))))
 (pss_cons (ps_asg (pe_ix ix_list (pv 2) (pv 1) (fun _ _ => rfl)) (pg_tup rfl (pgs_cons (pg_name (i := 4) sc_is_unwanted.nd rfl (Or.inl rfl)) (pgs_cons (pg_name (i := 5) sc_is_unwanted.nd rfl (Or.inl rfl)) (pgs_cons (pg_name (i := 6) sc_is_unwanted.nd rfl (Or.inl rfl)) (pgs_cons (pg_name (i := 7) sc_is_unwanted.nd rfl (Or.inl rfl)) pgs_nil))))))
 (pss_one (ps_ret (pe_cmpR op_eq (pv 4) pe_int (nomark _)))))), ?_⟩
    obtain ⟨t, a, xs, rfl, ht, hs, ha⟩ := hx.good
    obtain ⟨v, hv, hvd⟩ := ha.get' (i := k) (d := dayD d) (by rw [List.getElem?_map, hd]; rfl)
    obtain ⟨t2, rfl, ht2⟩ := hvd.day
    walk_at "wp"
    refine ⟨_, ht, rfl, ?_⟩
    walk_at "wp"
    refine ⟨_, _, hs, atI_nat hv, ?_⟩
    walk_at "wp"
    refine ⟨_, ht2, rfl, ?_⟩
    walk_at "wp"
    exact q
abbrev s_is_dough : Stmt := top 51
theorem sc_is_dough : FnScope ["thing", "part"] ["thing"] (defScope s_is_dough) := ⟨rfl, rfl, rfl, by decide +kernel, rfl, by decide +kernel, by decide +kernel⟩
theorem ok_is_dough {f : Addr} {fd : FuncData} (F : Fun K "is_dough" "is_dough" s_is_dough f fd) (B : Bi mg) (D_is_tuple_of : Def P w K mg base "is_tuple_of" 1 ["thing", "many"] (spTupleOf K)) (D_is_number : Def P w K mg base "is_number" 2 ["thing"] (spNum K)) :
    FnOk P w K mg base CX0 3 f fd ["thing"] (spPred K dghB) := by
  refine F.ok sc_is_dough (fun vs H Q E h => ?_) (fun cdv A outer s H vs Q E hr h => ?_)
  · obtain ⟨x, d, rfl, _⟩ := h
    rfl
  · obtain ⟨x, d, rfl, hx, q⟩ := h
    refine ⟨_, (pss_one (ps_ret (pe_and (pe_callD D_is_tuple_of hr (by rfl) (pa_cons (pv 0) (pa_cons pe_int pa_nil))) (pe_one (pe_callB (cr_all rfl) (by rfl) B.all (by decide +kernel) (pa_cons (pe_lc (own := [("part", 1)]) (g := (gName 1)) rfl sc_is_dough.nd (pi_tup (pv 0)) (blkOk_by (own := [("part", 1)]) (N := ["thing", "part"]) (sc := defScope s_is_dough) (by decide +kernel)) (fun _ _ _ _ _ => (pg_name (i := 1) sc_is_dough.nd rfl (Or.inl rfl))) (fun _ _ _ _ _ => pts_nil) (fun _ _ _ _ _ => (pe_callD D_is_number hr (by rfl) (pa_cons (pv 1) pa_nil)))) pa_nil)))))), ?_⟩
    walk_at "wp"
    refine ⟨x, d, 3, rfl, hx, ?_⟩
    have no : tupB 3 d = false → dghB d = false := by
      intro h
      match d, h with
      | .tuple [a, b, c], h => cases h
      | .tuple [], _ => rfl
      | .tuple [_], _ => rfl
      | .tuple [_, _], _ => rfl
      | .tuple (_ :: _ :: _ :: _ :: _), _ => rfl
      | .none, _ => rfl
      | .bool _, _ => rfl
      | .int _, _ => rfl
      | .str _, _ => rfl
      | .list _, _ => rfl
      | .dict _, _ => rfl
    refine ⟨_, rfl, ite2 (fun h => ?_) (fun h => qb (no (Bool.eq_false_iff.mpr h)).symm (q H (Same.refl _)))⟩
    cases hx with
    | tup hs ha =>
      rename_i a xs ds
      have h4 : ds.length = 3 := of_decide_eq_true h
      obtain ⟨d1, d2, d3, rfl⟩ : ∃ d1 d2 d3, ds = [d1, d2, d3] := by
        match ds, h4 with
        | [a, b, c], _ => exact ⟨a, b, c, rfl⟩
      walk_at "wp"
      refine ⟨⟨_, hs⟩, fun D hD => ?_⟩
      refine LcR.map (walk_tup (xs := xs)) (([d1, d2, d3].map numD).map V.bl) hD (by rw [ha.length]; rfl) (by rw [ha.length]; show 3 ≤ 100000; decide) (fun H s => Same.tup s hs) (fun _ _ _ _ y => yat_same y) (fun i x y H0 H1 hi s1 yy hy R hR => ?_) (fun H1 s1 hH => ?_)
      · obtain ⟨rfl, hx⟩ := yy
        obtain ⟨d, hd, hxd⟩ := ha.get hx
        walk_at "wp"
        refine ⟨x, d, rfl, hxd.same s1, ?_⟩
        rw [List.getElem?_map, List.getElem?_map, hd] at hy
        cases hy
        exact hR _ (Same.refl _)
      · have q1 := q _ s1
        refine ⟨[d1, d2, d3].map numD, SqL.of hH, ?_⟩
        refine qb ?_ q1
        simp only [List.map, List.all_cons, List.all_nil, id, Bool.and_true, dghB, Bool.and_assoc]
    | _ => cases h
abbrev s_look_at_doughs : Stmt := top 52
theorem sc_look_at_doughs : FnScope ["bakery", "thing", "lights", "bound", "goods", "day", "dough"] ["bakery", "thing"] (defScope s_look_at_doughs) := ⟨rfl, rfl, rfl, by decide +kernel, rfl, by decide +kernel, by decide +kernel⟩
def spLookD (K : PySem.W.Frag) : Sp := fun vs H Q _ => ∃ x ls g y ds, vs = [x, y] ∧ Th K H x (bakD ⟨ls, none, [g]⟩) ∧ bakB (bakD ⟨ls, none, [g]⟩) = true ∧ Th K H y (doughsD ds) ∧ ds.length = ls.length ∧ (∀ d ∈ ds, dghB (dghD d) = true) ∧ ∀ H', Same H H' → Q .non H'
def LdI (v0 v1 v2 v3 v4 : V) (H : Hp) (_ : Nat) (σ : L2.St) (H' : Hp) : Prop := (∃ y5 y6, σ = [some v0, some v1, some v2, some v3, some v4, y5, y6]) ∧ Same H H'
theorem ok_look_at_doughs {f : Addr} {fd : FuncData} (F : Fun K "look_at_doughs" "look_at_doughs" s_look_at_doughs f fd) (B : Bi mg) (D_look_at_plain : Def P w K mg base "look_at_plain" 8 ["bakery"] (spPlain K .non)) (D_is_list_of : Def P w K mg base "is_list_of" 1 ["thing", "fewest", "most"] (spListOf K)) (D_is_dough : Def P w K mg base "is_dough" 3 ["thing"] (spPred K dghB)) :
    FnOk P w K mg base CX0 9 f fd ["bakery", "thing"] (spLookD K) := by
  refine F.ok sc_look_at_doughs (fun vs H Q E h => ?_) (fun cdv A outer s H vs Q E hr h => ?_)
  · obtain ⟨_, _, _, _, _, rfl, _⟩ := h
    rfl
  · obtain ⟨x, ls, g, y, ds, rfl, hx, hb, hy, hdl, hds, q⟩ := h
    refine ⟨_, (pss_cons (ps_expr (pe_callD D_look_at_plain hr (by rfl) (pa_cons (pv 0) pa_nil)))
 (pss_cons (ps_asg (pv 0) (pg_tup rfl (pgs_cons (pg_name (i := 2) sc_look_at_doughs.nd rfl (Or.inl rfl)) (pgs_cons (pg_name (i := 3) sc_look_at_doughs.nd rfl (Or.inl rfl)) (pgs_cons (pg_name (i := 4) sc_look_at_doughs.nd rfl (Or.inl rfl)) pgs_nil)))))
 (pss_cons (ps_if (pt_not (pt_val (pe_callD D_is_list_of hr (by rfl) (pa_cons (pv 1) (pa_cons (pe_callB call_lnL (by rfl) B.len (by decide +kernel) (pa_cons (pv 2) pa_nil)) (pa_cons (pe_callB call_lnL (by rfl) B.len (by decide +kernel) (pa_cons (pv 2) pa_nil)) pa_nil)))))) (pss_one ps_never) pss_nil)
 (pss_one (ps_for PassesOwn.never rfl (pi_enum (by rfl) B.enumerate (pa_cons (pv 1) pa_nil)) (pg_tup rfl (pgs_cons (pg_name (i := 5) sc_look_at_doughs.nd rfl (Or.inl rfl)) (pgs_cons (pg_name (i := 6) sc_look_at_doughs.nd rfl (Or.inl rfl)) pgs_nil))) (pss_one (ps_if (pt_not (pt_val (pe_callD D_is_dough hr (by rfl) (pa_cons (pv 6) pa_nil)))) (pss_one ps_never) pss_nil))))))), ?_⟩
    walk_at "wp"
    refine ⟨x, _, rfl, hx, hb, rfl, rfl, fun H1 S1 => ?_⟩
    obtain ⟨a, l, v2, ga, xl, xg, rfl, ht, hl, hla, h2, hgl, hga⟩ := Th.bak (hx.same S1)
    have hxl : xl.length = ls.length := by rw [hla.length, List.length_map]
    walk_at "wp"
    refine ⟨_, ht, rfl, ?_⟩
    walk_at "wp"
    refine ⟨_, hl, _, hl, y, _, ls.length, ls.length, by rw [hxl], hy.same S1, ?_⟩
    rw [show listB ls.length ls.length (doughsD ds) = true by simp only [doughsD, listB, List.length_map, hdl]; simp]
    walk_at "wp"
    obtain ⟨p, xs, rfl, hp, hpa⟩ := (hy.same S1).doughs
    walk_at "wp"
    refine ⟨_, hp, LoopR.by walk_enum (LdI _ _ _ _ _ H1) ⟨⟨_, _, rfl⟩, Same.refl _⟩ (fun i σ H' _ hI => hI.2.seq hp) (fun i v σ H2 H3 hi hI hY => ?_) (fun σ H' hI => q _ (S1.trans hI.2))⟩
    obtain ⟨⟨y5, y6, rfl⟩, S2⟩ := hI
    have S3 := S2.trans (ypair_same hY)
    obtain ⟨T, z1, z2, rfl, hT, rfl, e1, e2⟩ := hY
    cases e1
    have e2 : xs[i]? = some z2 := e2
    obtain ⟨d, hd, hz⟩ := hpa.get e2
    rw [List.getElem?_map] at hd
    obtain ⟨d0, hd0, rfl⟩ := Option.map_eq_some_iff.mp hd
    walk_at "wp"
    refine ⟨_, SqT.of upd_same, rfl, ?_⟩
    walk_at "wp"
    refine ⟨_, _, rfl, hz.same S3, fun H6 S6 => ?_⟩
    rw [hds d0 (List.mem_of_getElem? hd0)]
    walk_at "wp"
    exact ⟨⟨_, _, rfl⟩, S3.trans S6⟩
abbrev s_dough_price : Stmt := top 53
theorem sc_dough_price : FnScope ["doughs", "mixed", "baked", "mix", "dough", "hold", "other", "price", "held"] ["doughs", "mixed", "baked"] (defScope s_dough_price) := ⟨rfl, rfl, rfl, by decide +kernel, rfl, by decide +kernel, by decide +kernel⟩
def spDghP (K : PySem.W.Frag) : Sp := fun vs H Q _ => ∃ y ds, ∃ i j : Nat, vs = [y, .int (i : Int), .int (j : Int)] ∧ Th K H y (doughsD ds) ∧ i < ds.length ∧ ds.length ≤ 1000 ∧ ∀ H', Same H H' → Q (.int (doughP ds i j)) H'
theorem ok_dough_price {f : Addr} {fd : FuncData} (F : Fun K "dough_price" "dough_price" s_dough_price f fd) (B : Bi mg) : FnOk P w K mg base CX0 1 f fd ["doughs", "mixed", "baked"] (spDghP K) := by
  refine F.ok sc_dough_price (fun vs H Q E h => ?_) (fun cdv A outer s H vs Q E hr h => ?_)
  · obtain ⟨_, _, _, _, rfl, _⟩ := h
    rfl
  · obtain ⟨y, ds, i, j, rfl, hy, hi, hl, q⟩ := h
    refine ⟨_, (pss_cons (ps_asg (pe_ix ix_list (pv 0) (pv 1) (fun _ _ => rfl)) (pg_tup rfl (pgs_cons (pg_name (i := 3) sc_dough_price.nd rfl (Or.inl rfl)) (pgs_cons (pg_name (i := 4) sc_dough_price.nd rfl (Or.inl rfl)) (pgs_cons (pg_name (i := 5) sc_dough_price.nd rfl (Or.inl rfl)) pgs_nil)))))
 (pss_one (ps_ret (pe_op op_add (pv 4) (pe_callB (cr_sum rfl) (by rfl) B.sum (by decide +kernel) (pa_cons (pe_lc (own := [("other", 6), ("price", 7), ("held", 8)]) (g := (gTup K 3 (gCons (gName 6) (gCons (gName 7) (gCons (gName 8) gNil))))) rfl sc_dough_price.nd (pi_list (pe_slice sl_list (pv 0) (po_some (pv 1)) (po_some (pv 2)))) (blkOk_by (own := [("other", 6), ("price", 7), ("held", 8)]) (N := ["doughs", "mixed", "baked", "mix", "dough", "hold", "other", "price", "held"]) (sc := defScope s_dough_price) (by decide +kernel)) (fun _ _ _ _ _ => (pg_tup rfl (pgs_cons (pg_name (i := 6) sc_dough_price.nd rfl (Or.inl rfl)) (pgs_cons (pg_name (i := 7) sc_dough_price.nd rfl (Or.inl rfl)) (pgs_cons (pg_name (i := 8) sc_dough_price.nd rfl (Or.inl rfl)) pgs_nil))))) (fun _ _ _ _ _ => pts_nil) (fun _ _ _ _ _ => (pv 8))) pa_nil)))))), ?_⟩
    obtain ⟨p, xs, rfl, hp, hpa⟩ := hy.doughs
    have hd : ds[i]? = some ds[i] := List.getElem?_eq_getElem hi
    generalize ds[i] = d at hd
    obtain ⟨v, hv, hvd⟩ := hpa.get' (i := i) (d := dghD d) (by rw [List.getElem?_map, hd]; rfl)
    obtain ⟨t, rfl, ht⟩ := hvd.dgh
    walk_at "wp"
    refine ⟨_, _, hp, atI_nat hv, ?_⟩
    walk_at "wp"
    refine ⟨_, ht, rfl, ?_⟩
    walk_at "wp"
    refine ⟨_, hp, fun p2 hp2 => ⟨⟨_, SqL.of upd_same⟩, fun D hD => ?_⟩⟩
    rw [cutV_nat] at hD ⊢
    have sp : Same H (upd H p2 (.lst ((xs.drop i).take (j - i)))) := same_upd hp2
    have hL : SqL K (upd H p2 (.lst ((xs.drop i).take (j - i)))) p2 ((xs.drop i).take (j - i)) := SqL.of upd_same
    have hb := ((hpa.same sp).drop i).take (j - i)
    rw [← List.map_drop, ← List.map_take] at hb
    generalize upd H p2 (.lst ((xs.drop i).take (j - i))) = Hb at sp hL hD hb ⊢
    have q1 := q
    unfold doughP at q1
    rw [dghAt_of hd] at q1
    unfold holdS at q1
    generalize (ds.drop i).take (j - i) = cs at hb q1
    have hcl : cs.length ≤ 1000 ∨ 1000 < cs.length := by omega
    have hbl := hb.length
    rw [List.length_map, List.length_take, List.length_drop] at hbl
    have hxl := hpa.length
    rw [List.length_map] at hxl
    refine LcR.map walk_list (cs.map fun d => V.int d.hold) hD (by rw [List.length_map, List.length_take, List.length_drop, hbl]) (by rw [List.length_take, List.length_drop]; omega) (fun H s => s.seq hL) (fun _ _ _ _ y => yat_same y) (fun i x y H0 H1 hi s1 yy hy R hR => ?_) (fun H1 s1 hH => ?_)
    · obtain ⟨rfl, hx⟩ := yy
      obtain ⟨d, hd, hxd⟩ := hb.get hx
      rw [List.getElem?_map] at hd hy
      cases hc : cs[i]? with
      | none => rw [hc] at hd; cases hd
      | some c =>
        rw [hc] at hd hy
        cases hd
        cases hy
        obtain ⟨t, rfl, ht⟩ := (hxd.same s1).dgh
        walk_at "wp"
        refine ⟨_, ht, rfl, ?_⟩
        walk_at "wp"
        exact hR _ (Same.refl _)
    · refine ⟨cs.map Dgh.hold, SqL.of (by rw [List.map_map]; exact hH), ?_⟩
      exact q1 _ (sp.trans s1)
end
end Bk

namespace Bk
open PySem PySem.Spec PyProof.Rows L2
local macro_rules | `(tactic| walk_at "wp") => `(tactic| try simp only [tScT2, rSetOf2_r, rSorDT_r, rSetD, tDGet2, tDGet, tDNewT, cxW, rExtend_r, rSortU_r, rSetOf_r, rSortedSet_r, rNinr_r, rNeN_r, rCatL_r, rSlT_r, rListOf_r, rIsB_b, rNotB_b, tFmtO, tJs, tOst, tCallS, WE, tRaise2, rOne_i, rSorD_r, tDNewK, Int.zero_add, tNever, tFor_eq, tLc_eq, iList, iTup, iRng1_eq, rRng1_i, iRng2_eq, rRng2_i, iEnum_eq, rEnum_r, iZip_eq, rZip_r, tSl, tPart, tNoPart, rSlL_r, rCat_r, rIn_r, rNin_r, rRepr_r, iRevR, rMin_r, rShr_i, rOdd_i, rSetL_r, gSub, rRg1_i, rRg2_i, rInr_r, tAug, ipI_ii, tLstRg, tRg1, tRg2, gTup_r, gUnl_r, rInt1_b, rInt1_i, rRep_r, tStep_r, scal, tSeq, tNext, tAsg, tRet, tRetN, tIfS, tDrop, tCB, tCons, tNil, tVar, tOp, tUn, tC, rU_i, rI_ii, rI0_ii, rEq, rNe, tTest, tB, tAnd, tOr, tNot, tAndV, tOrV, tNotV, tIf, tChain, tLst, tTup, tBM, tBM0, rAppend_r, rIxL_r, rIxT_r, rMx_ii, rMn_ii, rLnL_r, rLnT_r, rIsD_int, rIsD_bool, rIsD_list, rIsD_tuple, tCall, gName, gNil_n, gCons_c, cxK, L2.start, List.map, List.replicate, List.length_cons, List.length_nil, List.cons_append, List.nil_append, List.append_nil, List.getElem?_cons_zero, List.getElem?_cons_succ, Option.some.injEq, exists_eq_left', exists_eq_left, V.int.injEq, V.bl.injEq, V.str.injEq, V.ref.injEq, List.cons.injEq, and_true, true_and, and_self, List.set, wipe, rAll_r, rSum_r, reduceCtorEq, decide_true, decide_false, reduceIte, ite_true, ite_false, if_true, if_false, Bool.false_eq_true, Bool.not_true, Bool.not_false])
local macro_rules | `(tactic| walk_at "shaped") => `(tactic| (simp only [SeqAt.shaped, PyData.canLay0, PyData.canLayAll0, PyData.depth, PyData.depthAll]; rfl))
local macro_rules | `(tactic| walk_at "lay") => `(tactic| (simp only [PyData.canLay0, PyData.canLayAll0]; rfl))
local macro_rules | `(tactic| walk_at "wg") => `(tactic| try simp only [gName, gTup_r, gCons_c, gNil_n, cxK, List.set, List.cons.injEq, and_true, true_and, exists_eq_left', exists_eq_left, List.length_cons, List.length_nil])
section
variable {P : Program} {w : World} {K : PySem.W.Frag} {mg : Str → Option Value} {base : Heap}
abbrev s_dough_cost : Stmt := top 57
theorem sc_dough_cost : FnScope ["bakery", "doughs", "plan", "lights", "bound", "goods", "mixes", "mixed", "baked", "given", "many", "lit", "cost", "day"] ["bakery", "doughs", "plan"] (defScope s_dough_cost) := ⟨rfl, rfl, rfl, by decide +kernel, rfl, by decide +kernel, by decide +kernel⟩
def spDcost (K : PySem.W.Frag) : Sp := fun vs H Q _ => ∃ x ls g y ds z L, vs = [x, y, z] ∧ Th K H x (bakD ⟨ls, none, [g]⟩) ∧ bakB (bakD ⟨ls, none, [g]⟩) = true ∧ Th K H y (doughsD ds) ∧ ds.length = ls.length ∧ (∀ d ∈ ds, dghB (dghD d) = true) ∧ Th K H z (planD L) ∧ PlanF g ls.length L ∧ ∀ H', Same H H' → Q (.int (costD ds ls g ls.length L)) H'
theorem doughs_at {K : PySem.W.Frag} {H : Hp} {xs : List V} {ds : List Dgh} (hpa : ThAll K H xs (ds.map dghD)) (m : Nat) (hm : m < ds.length) : ∃ t, xs[m]? = some (.ref t) ∧ SqT K H t [.int (dghAt ds m).mix, .int (dghAt ds m).dough, .int (dghAt ds m).hold] := by
  have hd : ds[m]? = some ds[m] := List.getElem?_eq_getElem hm
  obtain ⟨v, hv, hvd⟩ := hpa.get' (i := m) (d := dghD ds[m]) (by rw [List.getElem?_map, hd]; rfl)
  obtain ⟨t, rfl, ht⟩ := hvd.dgh
  rw [dghAt_of hd]
  exact ⟨t, hv, ht⟩
def DcI (v0 v1 v2 v3 v4 v5 v6 v11 : V) (f : K3 → Int) (c : Int) (zs : List (Addr × Row4)) (H : Hp) (i : Nat) (σ : L2.St) (H' : Hp) : Prop := ∃ y7 y8 y9 y10, σ = [some v0, some v1, some v2, some v3, some v4, some v5, some v6, y7, y8, y9, y10, some v11, some (.int (c + sumR f ((zs.take i).map (·.2)))), none] ∧ Same H H'
theorem sumR_step {f : K3 → Int} {zs : List (Addr × Row4)} {i : Nat} {z : Addr × Row4} (h : zs[i]? = some z) : sumR f ((zs.take (i + 1)).map (·.2)) = sumR f ((zs.take i).map (·.2)) + z.2.m * f z.2.k := by
  unfold sumR
  rw [List.take_add_one, h]
  simp
theorem ok_dough_cost {f : Addr} {fd : FuncData} (F : Fun K "dough_cost" "dough_cost" s_dough_cost f fd) (B : Bi mg) (Bs : mg "sorted" = none) (D_look_at_doughs : Def P w K mg base "look_at_doughs" 9 ["bakery", "thing"] (spLookD K)) (D_dough_price : Def P w K mg base "dough_price" 1 ["doughs", "mixed", "baked"] (spDghP K)) (D_loaf_price : Def P w K mg base "loaf_price" 2 ["good", "baked", "given"] (spLoafP K)) : FnOk P w K mg base CX0 10 f fd ["bakery", "doughs", "plan"] (spDcost K) := by
  refine F.ok sc_dough_cost (fun vs H Q E h => ?_) (fun cdv A outer s H vs Q E hr h => ?_)
  · obtain ⟨_, _, _, _, _, _, _, rfl, _⟩ := h
    rfl
  · obtain ⟨x, ls, g, y, ds, z, L, rfl, hx, hb, hy, hdl, hds, hP, hF, q⟩ := h
    refine ⟨_, (pss_cons (ps_expr (pe_callD D_look_at_doughs hr (by rfl) (pa_cons (pv 0) (pa_cons (pv 1) pa_nil))))
 (pss_cons (ps_asg (pv 0) (pg_tup rfl (pgs_cons (pg_name (i := 3) sc_dough_cost.nd rfl (Or.inr rfl)) (pgs_cons (pg_name (i := 4) sc_dough_cost.nd rfl (Or.inl rfl)) (pgs_cons (pg_name (i := 5) sc_dough_cost.nd rfl (Or.inl rfl)) pgs_nil)))))
 (pss_cons (ps_set (i := 6) sc_dough_cost.nd rfl (Or.inl rfl) (pe_callB (cr_sum rfl) (by rfl) B.sum (by decide +kernel) (pa_cons (pe_lc (own := [("day", 13)]) (g := (gName 13)) (te := (tOp (rIxT K) (tOp (rIxL K) _ _) _)) rfl sc_dough_cost.nd (pi_list (pe_callB (cr_sortedSet rfl) (by rfl) Bs (by decide +kernel) (pa_cons (pe_scT2 (at2 := false) rfl (pv 2) (by decide +kernel) rfl rfl rfl rfl rfl (by decide +kernel) rfl (by decide)) pa_nil))) (blkOk_by (own := [("day", 13)]) (N := ["bakery", "doughs", "plan", "lights", "bound", "goods", "mixes", "mixed", "baked", "given", "many", "lit", "cost", "day"]) (sc := defScope s_dough_cost) (by decide +kernel)) (fun _ _ _ _ _ => (pg_name (i := 13) sc_dough_cost.nd rfl (Or.inl rfl))) (fun _ _ _ _ _ => pts_nil) (fun _ _ _ _ _ => (pe_ix ix_tup (pe_ix ix_list (pv 1) (pv 13) (fun _ _ => rfl)) pe_int (fun _ _ => rfl)))) pa_nil)))
 (pss_cons (ps_set (i := 11) sc_dough_cost.nd rfl (Or.inl rfl) (pe_callB (cr_sum rfl) (by rfl) B.sum (by decide +kernel) (pa_cons (pe_lc (own := [("day", 13)]) (g := (gName 13)) (te := (tOp (rIxL K) _ _)) rfl sc_dough_cost.nd (pi_list (pe_callB (cr_sortedSet rfl) (by rfl) Bs (by decide +kernel) (pa_cons (pe_scT2 (at2 := true) rfl (pv 2) (by decide +kernel) rfl rfl rfl rfl rfl (by decide +kernel) rfl (by decide)) pa_nil))) (blkOk_by (own := [("day", 13)]) (N := ["bakery", "doughs", "plan", "lights", "bound", "goods", "mixes", "mixed", "baked", "given", "many", "lit", "cost", "day"]) (sc := defScope s_dough_cost) (by decide +kernel)) (fun _ _ _ _ _ => (pg_name (i := 13) sc_dough_cost.nd rfl (Or.inl rfl))) (fun _ _ _ _ _ => pts_nil) (fun _ _ _ _ _ => (pe_ix ix_list (pv 3) (pv 13) (fun _ _ => rfl)))) pa_nil)))
 (pss_cons (ps_set (i := 12) sc_dough_cost.nd rfl (Or.inl rfl) (pe_op op_add (pv 6) (pv 11)))
 (pss_cons (ps_for PassesOwn.never rfl (pi_list (pv 2)) (pg_tup rfl (pgs_cons (pg_name (i := 7) sc_dough_cost.nd rfl (Or.inl rfl)) (pgs_cons (pg_name (i := 8) sc_dough_cost.nd rfl (Or.inl rfl)) (pgs_cons (pg_name (i := 9) sc_dough_cost.nd rfl (Or.inl rfl)) (pgs_cons (pg_name (i := 10) sc_dough_cost.nd rfl (Or.inl rfl)) pgs_nil))))) (pss_one (ps_aug (i := 12) sc_dough_cost.nd rfl (Or.inl rfl) (pe_op op_mul (pv 10) (pe_op op_add (pe_callD D_dough_price hr (by rfl) (pa_cons (pv 1) (pa_cons (pv 7) (pa_cons (pv 8) pa_nil)))) (pe_callD D_loaf_price hr (by rfl) (pa_cons (pe_ix ix_list (pv 5) pe_int (fun _ _ => rfl)) (pa_cons (pv 8) (pa_cons (pv 9) pa_nil)))))) ip_add)))
 (pss_one (ps_ret (pv 12))))))))), ?_⟩
    obtain ⟨⟨c1, c2⟩, c3, _, _, c7⟩ := bak_parts hb
    obtain ⟨c8, c9, hok⟩ := c7 g (List.mem_singleton.mpr rfl)
    dsimp only at c1 c2 c3 c8
    walk_at "wp"
    refine ⟨x, ls, g, y, ds, rfl, hx, hb, hy, hdl, hds, fun H1 S1 => ?_⟩
    obtain ⟨a, l, v2, ga, xl, xg, rfl, ht, hl, hla, h2, hgl, hga⟩ := Th.bak (hx.same S1)
    have hxl : xl = ls.map V.int := hla.intsV
    obtain ⟨pd, xd, rfl, hpd, hda⟩ := (hy.same S1).doughs
    obtain ⟨p, zs, rfl, hp, hz2, hz3⟩ := (hP.same S1).plan
    have hzm : ∀ z ∈ zs, KeyD g ls.length z.2.k ∧ 0 < z.2.m ∧ z.2.m ≤ 100000000000 := fun z hz => by
      have hzL : z.2 ∈ L := by rw [← hz2]; exact List.mem_map.mpr ⟨z, hz, rfl⟩
      exact ⟨hF.keys _ hzL, hF.m _ hzL⟩
    walk_at "wp"
    refine ⟨_, ht, rfl, ?_⟩
    have em : ∀ h : Row4 → Nat, (zs.map fun z => (z.1, ((h z.2 : Nat) : Int))).map (·.2) = (L.map h).map fun d => ((d : Nat) : Int) := fun h => by
      rw [← hz2, List.map_map, List.map_map, List.map_map]
      rfl
    have hda' : ∀ r ∈ L, r.a < ls.length ∧ r.b < ls.length := fun r hr => by
      have h1 : r.a ≤ r.b := (hF.keys r hr).ab
      have h2 : r.b < ls.length := (hF.keys r hr).b
      omega
    have hset : ∀ (h : Row4 → Nat) (ms : List Int), (∀ r ∈ L, h r < ls.length) → (∀ k, k ∈ ms ↔ decide (k ∈ (L.map h).map fun d => ((d : Nat) : Int)) = true) → ∀ k ∈ ms, ∃ d : Nat, k = (d : Int) ∧ d < ls.length := fun h ms hh hm k hk => by
      obtain ⟨d, hd, rfl⟩ := List.mem_map.mp (of_decide_eq_true ((hm k).mp hk))
      obtain ⟨r, hr, rfl⟩ := List.mem_map.mp hd
      exact ⟨_, rfl, hh r hr⟩
    have hsum : ∀ (h : Row4 → Nat) (ms : List Int) (G : Nat → Int), (∀ r ∈ L, h r < ls.length) → ms.Pairwise (· < ·) → (∀ k, k ∈ ms ↔ decide (k ∈ (L.map h).map fun d => ((d : Nat) : Int)) = true) → (ms.map fun k => G k.toNat).sum = litR G ls.length (L.map h) := fun h ms G hh hpw hm => lit_ints hpw (fun k => by rw [hm k, decide_eq_true_eq, List.mem_map]) fun d hd => by
      obtain ⟨r, hr, rfl⟩ := List.mem_map.mp hd
      exact hh r hr
    walk_at "wp"
    refine ⟨p, zs.map fun z => (z.1, ((z.2.a : Nat) : Int)), ls.length, rfl, by rw [List.map_map]; exact hp, fun z hz => ?_, fun z hz => ?_, by omega, fun D n hD hn => ?_⟩
    · obtain ⟨y, hy, rfl⟩ := List.mem_map.mp hz
      exact ⟨_, _, _, _, hz3 y hy, rfl⟩
    · obtain ⟨y, hy, rfl⟩ := List.mem_map.mp hz
      have h1 : y.2.a ≤ y.2.b := (hzm y hy).1.ab
      have h2 : y.2.b < ls.length := (hzm y hy).1.b
      show 0 ≤ ((y.2.a : Nat) : Int) ∧ ((y.2.a : Nat) : Int) < (ls.length : Int)
      omega
    rw [em Row4.a]
    generalize hS : (fun j => decide (j ∈ (L.map Row4.a).map fun d => ((d : Nat) : Int))) = S
    have S2 := same_upd (o := SetO w D S n) hD
    have E2 : upd H1 D (SetO w D S n) D = some (SetO w D S n) := upd_same
    generalize upd H1 D (SetO w D S n) = H2 at S2 E2 ⊢
    walk_at "wp"
    refine ⟨_, n, E2, by omega, fun ms p3 hpw hmem hml hp3 => ?_⟩
    have S3 := same_upd (o := .lst (ms.map V.int)) hp3
    have E3 : upd H2 p3 (.lst (ms.map V.int)) p3 = some (.lst (ms.map V.int)) := upd_same
    generalize upd H2 p3 (.lst (ms.map V.int)) = H3 at S3 E3 ⊢
    have S13 := S2.trans S3
    have hmem2 : ∀ k, k ∈ ms ↔ decide (k ∈ (L.map Row4.a).map fun d => ((d : Nat) : Int)) = true := fun k => by rw [hmem k, ← hS]
    have hmk := hset Row4.a ms (fun r hr => (hda' r hr).1) hmem2
    refine ⟨⟨_, SqL.of E3⟩, fun D4 hD4 => ?_⟩
    refine LcR.map (walk_list (xs := ms.map V.int)) ((ms.map fun k => mixF ds k.toNat).map V.int) hD4 (by rw [List.length_map, List.length_map, List.length_map]) (by rw [List.length_map]; omega) (fun H s => s.seq (SqL.of E3)) (fun _ _ _ _ y => yat_same y) (fun i x y H0 H4 hi s4 yy hy R hR2 => ?_) (fun H4 s4 hH4 => ?_)
    · obtain ⟨rfl, hxi⟩ := yy
      rw [List.length_map] at hi
      rw [List.getElem?_map, List.getElem?_eq_getElem hi] at hxi
      rw [List.getElem?_map, List.getElem?_map, List.getElem?_eq_getElem hi] at hy
      cases hxi
      cases hy
      obtain ⟨d, ed, hdl2⟩ := hmk _ (List.getElem_mem hi)
      generalize ms[i] = k at ed hR2 ⊢
      subst ed
      obtain ⟨t, hv, htd⟩ := doughs_at hda d (by omega)
      walk_at "wp"
      refine ⟨_, _, (S13.trans s4).seq hpd, atI_nat hv, ?_⟩
      walk_at "wp"
      refine ⟨_, _, Same.tup (S13.trans s4) htd, atI_nat (j := 0) rfl, ?_⟩
      exact hR2 _ (Same.refl _)
    · have hs1 := hsum Row4.a ms (mixF ds) (fun r hr => (hda' r hr).1) hpw hmem2
      have S14 := S13.trans s4
      walk_at "wp"
      refine ⟨_, SqL.of hH4, ?_⟩
      rw [hs1]
      walk_at "wp"
      refine ⟨p, zs.map fun z => (z.1, ((z.2.b : Nat) : Int)), ls.length, rfl, by rw [List.map_map]; exact S14.seq hp, fun z hz => ?_, fun z hz => ?_, by omega, fun D2 n2 hD2 hn2 => ?_⟩
      · obtain ⟨y, hy, rfl⟩ := List.mem_map.mp hz
        exact ⟨_, _, _, _, Same.tup S14 (hz3 y hy), rfl⟩
      · obtain ⟨y, hy, rfl⟩ := List.mem_map.mp hz
        have h2 : y.2.b < ls.length := (hzm y hy).1.b
        show 0 ≤ ((y.2.b : Nat) : Int) ∧ ((y.2.b : Nat) : Int) < (ls.length : Int)
        omega
      rw [em Row4.b]
      generalize hT : (fun j => decide (j ∈ (L.map Row4.b).map fun d => ((d : Nat) : Int))) = T
      have S5 := same_upd (o := SetO w D2 T n2) hD2
      have E5 : upd H4 D2 (SetO w D2 T n2) D2 = some (SetO w D2 T n2) := upd_same
      generalize upd H4 D2 (SetO w D2 T n2) = H5 at S5 E5 ⊢
      refine ⟨_, n2, E5, by omega, fun ms2 p6 hpw2 hmem3 hml2 hp6 => ?_⟩
      have S6 := same_upd (o := .lst (ms2.map V.int)) hp6
      have E6 : upd H5 p6 (.lst (ms2.map V.int)) p6 = some (.lst (ms2.map V.int)) := upd_same
      generalize upd H5 p6 (.lst (ms2.map V.int)) = H6 at S6 E6 ⊢
      have S16 := S14.trans (S5.trans S6)
      have hmem4 : ∀ k, k ∈ ms2 ↔ decide (k ∈ (L.map Row4.b).map fun d => ((d : Nat) : Int)) = true := fun k => by rw [hmem3 k, ← hT]
      have hmk2 := hset Row4.b ms2 (fun r hr => (hda' r hr).2) hmem4
      refine ⟨⟨_, SqL.of E6⟩, fun D7 hD7 => ?_⟩
      refine LcR.map (walk_list (xs := ms2.map V.int)) ((ms2.map fun k => rowF ls k.toNat).map V.int) hD7 (by rw [List.length_map, List.length_map, List.length_map]) (by rw [List.length_map]; omega) (fun H s => s.seq (SqL.of E6)) (fun _ _ _ _ y => yat_same y) (fun i x y H0 H7 hi s7 yy hy R hR2 => ?_) (fun H7 s7 hH7 => ?_)
      · obtain ⟨rfl, hxi⟩ := yy
        rw [List.length_map] at hi
        rw [List.getElem?_map, List.getElem?_eq_getElem hi] at hxi
        rw [List.getElem?_map, List.getElem?_map, List.getElem?_eq_getElem hi] at hy
        cases hxi
        cases hy
        obtain ⟨d, ed, hdl2⟩ := hmk2 _ (List.getElem_mem hi)
        generalize ms2[i] = k at ed hR2 ⊢
        subst ed
        walk_at "wp"
        refine ⟨_, _, (S16.trans s7).seq hl, by rw [hxl]; exact atI_nat (rowF_get hdl2), ?_⟩
        have := hR2 _ (Same.refl _)
        dsimp only at this
        rw [Int.toNat_natCast] at this
        exact this
      · have hs2 := hsum Row4.b ms2 (rowF ls) (fun r hr => (hda' r hr).2) hpw2 hmem4
        have S17 := S16.trans s7
        walk_at "wp"
        refine ⟨_, SqL.of hH7, ?_⟩
        rw [hs2]
        walk_at "wp"
        have hzl : zs.length = L.length := by rw [← hz2, List.length_map]
        have hg0 := (hga.get' (i := 0) (d := goodD g) rfl)
        obtain ⟨vg, hv, hvg⟩ := hg0
        refine ⟨⟨_, S17.seq hp⟩, ?_⟩
        refine LoopR.by (walk_list (xs := zs.map fun z => V.ref z.1)) (DcI (.ref a) (.ref pd) (.ref p) (.ref l) v2 (.ref ga) (.int (litR (mixF ds) ls.length (L.map Row4.a))) (.int (litR (rowF ls) ls.length (L.map Row4.b))) (priceD ds g) (litR (mixF ds) ls.length (L.map Row4.a) + litR (rowF ls) ls.length (L.map Row4.b)) zs H1) ⟨none, none, none, none, ?_, S17⟩ (fun i σ H' _ hI => by obtain ⟨_, _, _, _, _, S⟩ := hI; exact S.seq hp) (fun i v σ H0 H8 hi hI yy => ?_) (fun σ H8 hI => ?_)
        · show _ = _
          unfold sumR
          simp
        · obtain ⟨rfl, hxi⟩ := yy
          rw [List.length_map] at hi
          have hzi : zs[i]? = some zs[i] := List.getElem?_eq_getElem hi
          have hzmem := List.getElem_mem hi
          rw [List.getElem?_map, hzi] at hxi
          cases hxi
          obtain ⟨y7, y8, y9, y10, rfl, S8⟩ := hI
          generalize zs[i] = z at hzi hzmem
          obtain ⟨hk, hm0, hm1⟩ := hzm z hzmem
          have ha : z.2.a ≤ z.2.b := hk.ab
          have hb2 : z.2.b < ls.length := hk.b
          have hc2 : z.2.c < ls.length := hk.c
          obtain ⟨pz, hpz⟩ := hk.p
          walk_at "wp"
          refine ⟨_, Same.tup S8 (hz3 z hzmem), rfl, ?_⟩
          walk_at "wp"
          refine ⟨_, ds, z.2.a, z.2.b, rfl, (hy.same S1).same S8, by omega, by omega, fun H9 S9 => ?_⟩
          refine ⟨_, _, (S8.trans S9).seq hgl, atI_nat (j := 0) hv, ?_⟩
          refine ⟨_, g, z.2.b, z.2.c, rfl, hvg.same (S8.trans S9), by omega, by omega, fun H10 S10 => ?_⟩
          rw [show loafP g z.2.b z.2.c = some pz from hpz]
          simp only [optV]
          walk_at "wp"
          have e := sumR_step (f := priceD ds g) hzi
          rw [show priceD ds g z.2.k = doughP ds z.2.a z.2.b + pz by
            show doughP ds z.2.a z.2.b + (loafP g z.2.b z.2.c).getD 0 = _
            rw [show loafP g z.2.b z.2.c = some pz from hpz]
            rfl] at e
          refine ⟨.inl ⟨by omega, by omega⟩, ?_⟩
          rw [Int.add_assoc, ← e]
          exact ⟨_, _, _, _, rfl, (S8.trans S9).trans S10⟩
        · obtain ⟨y7, y8, y9, y10, rfl, S8⟩ := hI
          walk_at "wp"
          rw [List.length_map] at *
          rw [List.take_length, hz2]
          exact q _ (S1.trans S8)
end
end Bk

namespace Bk
open PySem PySem.Spec PyProof.Rows L2
local macro_rules | `(tactic| walk_at "wp") => `(tactic| try simp only [Int.zero_add, tNever, tFor_eq, tLc_eq, iList, iTup, iRng1_eq, rRng1_i, iRng2_eq, rRng2_i, iEnum_eq, rEnum_r, iZip_eq, rZip_r, tSl, tPart, tNoPart, rSlL_r, rCat_r, rIn_r, rNin_r, rRepr_r, rRg1_i, rRg2_i, rInr_r, tAug, ipI_ii, tLstRg, tRg1, tRg2, gTup_r, gUnl_r, rInt1_b, rInt1_i, rRep_r, tStep_r, scal, tSeq, tNext, tAsg, tRet, tRetN, tIfS, tDrop, tCB, tCons, tNil, tVar, tOp, tUn, tC, rU_i, rI_ii, rI0_ii, rEq, rNe, tTest, tB, tAnd, tOr, tNot, tAndV, tOrV, tNotV, tIf, tChain, tLst, tTup, tBM, tBM0, rAppend_r, rIxL_r, rIxT_r, rMx_ii, rMn_ii, rLnL_r, rLnT_r, rIsD_int, rIsD_bool, rIsD_list, rIsD_tuple, tCall, gName, gNil_n, gCons_c, cxK, L2.start, List.map, List.replicate, List.length_cons, List.length_nil, List.cons_append, List.nil_append, List.append_nil, List.getElem?_cons_zero, List.getElem?_cons_succ, Option.some.injEq, exists_eq_left', exists_eq_left, V.int.injEq, V.bl.injEq, V.str.injEq, V.ref.injEq, List.cons.injEq, and_true, true_and, and_self, List.set, wipe, rAll_r, rSum_r, reduceCtorEq, decide_true, decide_false, reduceIte, ite_true, ite_false, if_true, if_false, Bool.false_eq_true, Bool.not_true, Bool.not_false])
local macro_rules | `(tactic| walk_at "shaped") => `(tactic| (simp only [SeqAt.shaped, PyData.canLay0, PyData.canLayAll0, PyData.depth, PyData.depthAll]; rfl))
local macro_rules | `(tactic| walk_at "lay") => `(tactic| (simp only [PyData.canLay0, PyData.canLayAll0]; rfl))
section
variable {P : Program} {w : World} {K : PySem.W.Frag} {mg : Str → Option Value} {base : Heap}
abbrev s_wanted_price : Stmt := top 31
theorem sc_wanted_price : FnScope ["good", "baked", "given", "days", "life", "want", "each"] ["good", "baked", "given"] (defScope s_wanted_price) := ⟨rfl, rfl, rfl, by decide +kernel, rfl, by decide +kernel, by decide +kernel⟩
def okDays (g : Good) : Prop := ∀ d ∈ g.days, dayB (dayD d) = true
theorem want_ok {g : Good} (h : okDays g) {d : Day} (hd : d ∈ g.days) : 0 ≤ d.want ∧ d.want ≤ 1000000000 := by
  have k := h d hd
  simp only [dayD, dayB, Bool.and_eq_true] at k
  have k := k.1.1.1
  simp only [numD, Bool.and_eq_true, decide_eq_true_eq] at k
  exact k
def spWanted (K : PySem.W.Frag) : Sp := fun vs H Q _ => ∃ x g, ∃ j k : Nat, vs = [x, .int (j : Int), .int (k : Int)] ∧ Th K H x (goodD g) ∧ okDays g ∧ g.days.length ≤ 1000 ∧ j < g.days.length ∧ k < g.days.length ∧ ∀ H', Same H H' → Q (optV (wantP g j k)) H'
theorem ok_wanted_price {f : Addr} {fd : FuncData} (F : Fun K "wanted_price" "wanted_price" s_wanted_price f fd) (D_loaf_price : Def P w K mg base "loaf_price" 2 ["good", "baked", "given"] (spLoafP K)) : FnOk P w K mg base CX0 3 f fd ["good", "baked", "given"] (spWanted K) := by
  refine F.ok sc_wanted_price (fun vs H Q E h => ?_) (fun cdv A outer s H vs Q E hr h => ?_)
  · obtain ⟨x, g, j, k, rfl, _⟩ := h
    rfl
  · obtain ⟨x, g, j, k, rfl, hx, hok, hl, hj, hk, q⟩ := h
    refine ⟨_, (pss_cons (ps_asg (pv 0) (pg_tup rfl (pgs_cons (pg_name (i := 3) sc_wanted_price.nd rfl (Or.inl rfl)) (pgs_cons (pg_name (i := 4) sc_wanted_price.nd rfl (Or.inl rfl)) pgs_nil))))
 (pss_cons (ps_set (i := 5) sc_wanted_price.nd rfl (Or.inl rfl) (pe_ix ix_tup (pe_ix ix_list (pv 3) (pv 2) (fun _ _ => rfl)) pe_int (fun _ _ => rfl)))
 (pss_cons (ps_if (pt_cmpR op_eq (pv 5) pe_int (nomark _)) (pss_one (ps_ret pe_int)) pss_nil)
 (pss_cons (ps_set (i := 6) sc_wanted_price.nd rfl (Or.inl rfl) (pe_callD D_loaf_price hr (by rfl) (pa_cons (pv 0) (pa_cons (pv 1) (pa_cons (pv 2) pa_nil)))))
 (pss_one (ps_ret (pe_ifExp (pt_cmpR op_isN (pv 6) pe_non (nomark _)) pe_non (pe_op op_mul (pv 5) (pv 6))))))))), ?_⟩
    obtain ⟨t, a, xs, rfl, ht, hs, ha⟩ := hx.good
    have hd : g.days[k]? = some g.days[k] := List.getElem?_eq_getElem hk
    have hw := want_ok hok (List.getElem_mem hk)
    generalize g.days[k] = d at hd hw
    obtain ⟨v, hv, hvd⟩ := ha.get' (i := k) (d := dayD d) (by rw [List.getElem?_map, hd]; rfl)
    obtain ⟨t2, rfl, ht2⟩ := hvd.day
    walk_at "wp"
    refine ⟨_, ht, rfl, ?_⟩
    walk_at "wp"
    refine ⟨_, _, hs, atI_nat hv, ?_⟩
    walk_at "wp"
    refine ⟨_, _, ht2, atI_nat (j := 0) rfl, ?_⟩
    have q1 := fun H1 s1 => q H1 s1
    simp only [wantP, hd] at q1
    walk_at "wp"
    refine ite2 (fun h => ?_) (fun h => ?_)
    · have e : d.want = 0 := of_decide_eq_true h
      have := q1 H (Same.refl _)
      rw [if_pos e] at this
      exact this
    · have e : ¬ d.want = 0 := fun z => h (decide_eq_true z)
      refine ⟨_, g, j, k, rfl, hx, hl, hj, fun H1 s1 => ?_⟩
      have q2 := q1 H1 s1
      rw [if_neg e] at q2
      cases hp : loafP g j k with
      | none =>
        rw [hp] at q2
        simp only [optV]
        walk_at "wp"
        exact q2
      | some z =>
        rw [hp] at q2
        simp only [optV]
        walk_at "wp"
        exact ⟨.inl ⟨by omega, by omega⟩, q2⟩
end
end Bk

namespace Bk
open PySem PySem.Spec PyProof.Rows L2
local macro_rules | `(tactic| walk_at "wp") => `(tactic| try simp only [rMinN_r, tCKw, iRng3_eq, rRng3_i, rNeN_r, tAugS, rIsDX_list, tScT2, rSetL_r, rSetOf2_r, rSorDT_r, rSetD, tDGet2, tDGet, tDNewT, cxW, rExtend_r, rSortU_r, rSetOf_r, rSortedSet_r, rNinr_r, rNeN_r, rCatL_r, rSlT_r, rListOf_r, rIsB_b, rNotB_b, tFmtO, tJs, tOst, tCallS, WE, tRaise2, rOne_i, rSorD_r, tDNewK, Int.zero_add, tNever, tFor_eq, tLc_eq, iList, iTup, iRng1_eq, rRng1_i, iRng2_eq, rRng2_i, iEnum_eq, rEnum_r, iZip_eq, rZip_r, tSl, tPart, tNoPart, rSlL_r, rCat_r, rIn_r, rNin_r, rRepr_r, iRevR, rMin_r, rShr_i, rOdd_i, rSetL_r, gSub, rRg1_i, rRg2_i, rInr_r, tAug, ipI_ii, tLstRg, tRg1, tRg2, gTup_r, gUnl_r, rInt1_b, rInt1_i, rRep_r, tStep_r, scal, tSeq, tNext, tAsg, tRet, tRetN, tIfS, tDrop, tCB, tCons, tNil, tVar, tOp, tUn, tC, rU_i, rI_ii, rI0_ii, rEq, rNe, tTest, tB, tAnd, tOr, tNot, tAndV, tOrV, tNotV, tIf, tChain, tLst, tTup, tBM, tBM0, rAppend_r, rIxL_r, rIxT_r, rMx_ii, rMn_ii, rLnL_r, rLnT_r, rIsD_int, rIsD_bool, rIsD_list, rIsD_tuple, tCall, gName, gNil_n, gCons_c, cxK, L2.start, List.map, List.replicate, List.length_cons, List.length_nil, List.cons_append, List.nil_append, List.append_nil, List.getElem?_cons_zero, List.getElem?_cons_succ, Option.some.injEq, exists_eq_left', exists_eq_left, V.int.injEq, V.bl.injEq, V.str.injEq, V.ref.injEq, List.cons.injEq, and_true, true_and, and_self, List.set, wipe, rAll_r, rSum_r, reduceCtorEq, decide_true, decide_false, reduceIte, ite_true, ite_false, if_true, if_false, Bool.false_eq_true, Bool.not_true, Bool.not_false])
local macro_rules | `(tactic| walk_at "shaped") => `(tactic| (simp only [rMinN_r, tCKw, iRng3_eq, rRng3_i, rNeN_r, tAugS, rIsDX_list, SeqAt.shaped, PyData.canLay0, PyData.canLayAll0, PyData.depth, PyData.depthAll]; rfl))
local macro_rules | `(tactic| walk_at "lay") => `(tactic| (simp only [rMinN_r, tCKw, iRng3_eq, rRng3_i, rNeN_r, tAugS, rIsDX_list, PyData.canLay0, PyData.canLayAll0]; rfl))
local macro_rules | `(tactic| walk_at "wg") => `(tactic| try simp only [gName, gTup_r, gCons_c, gNil_n, cxK, List.set, List.cons.injEq, and_true, true_and, exists_eq_left', exists_eq_left, List.length_cons, List.length_nil])
section
variable {P : Program} {w : World} {K : PySem.W.Frag} {mg : Str → Option Value} {base : Heap}
abbrev s_first_baked_on : Stmt := top 39
theorem sc_first_baked_on : FnScope ["row", "light", "prices", "many", "cost", "first"] ["row", "light", "prices", "many"] (defScope s_first_baked_on) := ⟨rfl, rfl, rfl, by decide +kernel, rfl, by decide +kernel, by decide +kernel⟩
def spFbo (K : PySem.W.Frag) : Sp := fun vs H Q _ => ∃ (ra pa : Addr) (xs ys : List V) (row : Nat → Int) (wf : Nat → Option Int) (light : Int) (m : Nat), vs = [.ref ra, .int light, .ref pa, .int (m : Int)] ∧ SqL K H ra xs ∧ SqL K H pa ys ∧ (∀ i, i ≤ m → xs[i]? = some (.int (row i))) ∧ (∀ i, i < m → ys[i]? = some (optV (wf i))) ∧ m ≤ 1000 ∧ Q (natV (fbo row wf (row m) m light)) H
def FbI (ra pa : Addr) (light : Int) (row : Nat → Int) (wf : Nat → Option Int) (m : Nat) (H : Hp) (i : Nat) (σ : L2.St) (H' : Hp) : Prop := H' = H ∧ ∃ (c : Int) (y : Option V), σ = [some (.ref ra), some (.int light), some (.ref pa), some (.int (m : Int)), some (.int c), y] ∧ fbo row wf (row m) (m - i) c = fbo row wf (row m) m light
theorem ok_first_baked_on {f : Addr} {fd : FuncData} (F : Fun K "first_baked_on" "first_baked_on" s_first_baked_on f fd) (B : Bi mg) (Br : mg "reversed" = none) : FnOk P w K mg base CX0 1 f fd ["row", "light", "prices", "many"] (spFbo K) := by
  refine F.ok sc_first_baked_on (fun vs H Q E h => ?_) (fun cdv A outer s H vs Q E hr h => ?_)
  · obtain ⟨_, _, _, _, _, _, _, _, rfl, _⟩ := h
    rfl
  · obtain ⟨ra, pa, xs, ys, row, wf, light, m, rfl, hra, hpa, hx, hy, hm, q⟩ := h
    refine ⟨_, (pss_cons (ps_set (i := 4) sc_first_baked_on.nd rfl (Or.inl rfl) (pv 1))
 (pss_cons (ps_for PassesOwn.never rfl (pi_revR (by rfl) Br (prg_1 (by rfl) B.range (pv 3))) (pg_name (i := 5) sc_first_baked_on.nd rfl (Or.inl rfl)) (pss_cons (ps_if (pt_cmpR op_isN (pe_ix ix_list (pv 2) (pv 5) (fun _ _ => rfl)) pe_non (nomark _)) (pss_one (ps_ret pe_non)) pss_nil)
 (pss_cons (ps_aug (i := 4) sc_first_baked_on.nd rfl (Or.inl rfl) (pe_ix ix_list (pv 2) (pv 5) (fun _ _ => rfl)) ip_add)
 (pss_one (ps_if (pt_cmpR op_eq (pe_op op_add (pe_ix ix_list (pv 0) (pv 5) (fun _ _ => rfl)) (pv 4)) (pe_ix ix_list (pv 0) (pv 3) (fun _ _ => rfl)) (nomark _)) (pss_one (ps_ret (pv 5))) pss_nil)))))
 (pss_one (ps_ret pe_non)))), ?_⟩
    walk_at "wp"
    refine ⟨by omega, by omega, by omega, by omega, ?_⟩
    rw [show ((m : Int) - 0).toNat = m by omega]
    refine LoopR.by walk_rangeC (FbI ra pa light row wf m H) ⟨rfl, light, none, rfl, rfl⟩ (fun _ _ _ _ _ => trivial) (fun i v σ H0 H2 hi hI hY => ?_) (fun σ H2 hI => ?_)
    · obtain ⟨rfl, rfl⟩ := hY
      obtain ⟨rfl, c, y, rfl, hl⟩ := hI
      have ej : (m : Int) - 1 + (i : Int) * -1 = ((m - (i + 1) : Nat) : Int) := by omega
      dsimp only
      rw [ej]
      have hlt : m - (i + 1) < m := by omega
      have h1 := hx _ (Nat.le_of_lt hlt)
      have h2 := hy _ hlt
      rw [show m - i = (m - (i + 1)) + 1 by omega] at hl
      have eI : ∀ σ, (∃ (c : Int) (y : Option V), σ = [some (.ref ra), some (.int light), some (.ref pa), some (.int (m : Int)), some (.int c), y] ∧ fbo row wf (row m) (m - (i + 1)) c = fbo row wf (row m) m light) → FbI ra pa light row wf m H2 (i + 1) σ H2 := fun σ h => ⟨rfl, h⟩
      generalize FbI ra pa light row wf m H2 (i + 1) = NX at eI ⊢
      generalize m - (i + 1) = j at h1 h2 hl hlt eI ⊢
      walk_at "wp"
      refine ⟨_, _, hpa, atI_nat h2, ?_⟩
      generalize fbo row wf (row m) m light = L at q hl eI
      unfold fbo at hl
      cases hw : wf j with
      | none =>
        rw [hw] at hl
        simp only [optV]
        walk_at "wp"
        have hl : none = L := hl
        rw [← hl] at q
        exact q
      | some p =>
        rw [hw] at hl h2
        dsimp only at hl
        simp only [optV]
        walk_at "wp"
        refine ⟨_, _, hpa, atI_nat h2, ?_⟩
        simp only [optV]
        walk_at "wp"
        refine ⟨_, _, hra, atI_nat h1, ?_⟩
        walk_at "wp"
        refine ⟨_, _, hra, atI_nat (hx m (Nat.le_refl _)), ?_⟩
        walk_at "wp"
        by_cases e : row j + (c + p) = row m
        · rw [if_pos e] at hl
          rw [decide_eq_true e]
          walk_at "wp"
          rw [← hl] at q
          exact q
        · rw [if_neg e] at hl
          rw [decide_eq_false e]
          walk_at "wp"
          exact eI _ ⟨_, _, rfl, hl⟩
    · obtain ⟨rfl, c, y, rfl, hl⟩ := hI
      rw [Nat.sub_self] at hl
      have hl : none = fbo row wf (row m) m light := hl
      walk_at "wp"
      rw [← hl] at q
      exact q
abbrev s_stretch_rows : Stmt := top 40
theorem sc_stretch_rows : FnScope ["days", "baked", "first", "behind", "wants", "want", "loaf", "keep", "fine", "given"] ["days", "baked", "first", "behind"] (defScope s_stretch_rows) := ⟨rfl, rfl, rfl, by decide +kernel, rfl, by decide +kernel, by decide +kernel⟩
def planV (g : Good) (H : Hp) (D : Addr) (rs : List Addr) (es : List (Nat × Nat)) : Prop := Paired (fun r (e : Nat × Nat) => r ≠ D ∧ H r = some (.tup [.int (e.1 : Int), .int 0, .int (e.2 : Int), .int (wantN g e.2)])) rs es
def spSrows (K : PySem.W.Frag) : Sp := fun vs H Q _ => ∃ (x : V) (g : Good) (b f m : Nat), vs = [x, .int (b : Int), .int (f : Int), .int (m : Int)] ∧ Th K H x (.list (g.days.map dayD)) ∧ (∀ d ∈ g.days, dayB (dayD d) = true) ∧ f ≤ m ∧ m ≤ g.days.length ∧ g.days.length ≤ 1000 ∧
  ∀ (H' : Hp) (p : Addr) (rs : List Addr), Same H H' → H p = none → H' p = some (.lst (rs.map V.ref)) → planV g H' p rs (strE g b f m) → (∀ r ∈ rs, H r = none) → Q (.ref p) H'
theorem strE_snoc (g : Good) (b f i : Nat) : strE g b f (f + (i + 1)) = strE g b f (f + i) ++ (if wantN g (f + i) ≠ 0 then [(b, f + i)] else []) := by
  unfold strE
  rw [show f + (i + 1) - f = i + 1 by omega, show f + i - f = i by omega, List.range_succ, List.map_append, List.filter_append, List.map_append]
  congr 1
  by_cases e : wantN g (f + i) ≠ 0
  · rw [if_pos e]
    simp [e]
  · rw [if_neg e]
    simp only [List.map_cons, List.map_nil]
    rw [List.filter_cons_of_neg (by simpa using e)]
    rfl
theorem strE_len (g : Good) (b f m : Nat) : (strE g b f m).length ≤ m - f := by
  unfold strE
  rw [List.length_map]
  refine Nat.le_trans (List.length_filter_le _ _) ?_
  rw [List.length_map, List.length_range]
  exact Nat.le_refl _
theorem ok_stretch_rows {f : Addr} {fd : FuncData} (F : Fun K "stretch_rows" "stretch_rows" s_stretch_rows f fd) (B : Bi mg) : FnOk P w K mg base CX0 1 f fd ["days", "baked", "first", "behind"] (spSrows K) := by
  refine F.ok sc_stretch_rows (fun vs H Q E h => ?_) (fun cdv A outer s H vs Q E hr h => ?_)
  · obtain ⟨_, _, _, _, _, rfl, _⟩ := h
    rfl
  · obtain ⟨x, g, b, f, m, rfl, hx, hok, hfm, hmn, hn, q⟩ := h
    refine ⟨_, (pss_cons (ps_set (i := 4) sc_stretch_rows.nd rfl (Or.inr rfl) (pe_lc (own := [("want", 5), ("loaf", 6), ("keep", 7), ("fine", 8)]) (g := (gTup K 4 (gCons (gName 5) (gCons (gName 6) (gCons (gName 7) (gCons (gName 8) gNil)))))) rfl sc_stretch_rows.nd (pi_list (pv 0)) (blkOk_by (own := [("want", 5), ("loaf", 6), ("keep", 7), ("fine", 8)]) (N := ["days", "baked", "first", "behind", "wants", "want", "loaf", "keep", "fine", "given"]) (sc := defScope s_stretch_rows) (by decide +kernel)) (fun _ _ _ _ _ => (pg_tup rfl (pgs_cons (pg_name (i := 5) sc_stretch_rows.nd rfl (Or.inl rfl)) (pgs_cons (pg_name (i := 6) sc_stretch_rows.nd rfl (Or.inl rfl)) (pgs_cons (pg_name (i := 7) sc_stretch_rows.nd rfl (Or.inl rfl)) (pgs_cons (pg_name (i := 8) sc_stretch_rows.nd rfl (Or.inl rfl)) pgs_nil)))))) (fun _ _ _ _ _ => pts_nil) (fun _ _ _ _ _ => (pv 5))))
 (pss_one (ps_ret (pe_lc (own := [("given", 9)]) (g := (gName 9)) (te := (tTup (tCons _ (tCons _ (tCons _ (tCons (tOp (rIxL K) _ _) tNil)))))) (tt := (tTest (tOp _ (tOp (rIxL K) _ _) _))) rfl sc_stretch_rows.nd (pi_range2 (by rfl) B.range (pa_cons (pv 2) (pa_cons (pv 3) pa_nil))) (blkOk_by (own := [("given", 9)]) (N := ["days", "baked", "first", "behind", "wants", "want", "loaf", "keep", "fine", "given"]) (sc := defScope s_stretch_rows) (by decide +kernel)) (fun _ _ _ _ _ => (pg_name (i := 9) sc_stretch_rows.nd rfl (Or.inl rfl))) (fun _ _ _ _ _ => (pts_one (pt_cmpR op_gt (pe_ix ix_list (pv 4) (pv 9) (fun _ _ => rfl)) pe_int (nomark _)))) (fun _ _ _ _ _ => (pe_tup (pa_cons (pv 1) (pa_cons pe_int (pa_cons (pv 9) (pa_cons (pe_ix ix_list (pv 4) (pv 9) (fun _ _ => rfl)) pa_nil)))))))))), ?_⟩
    cases hx with
    | @lst a xs _ hs ha =>
    have hxs := ha.length
    rw [List.length_map] at hxs
    walk_at "wp"
    refine ⟨⟨_, hs⟩, fun D hD => ?_⟩
    refine LcR.map (walk_list (xs := xs)) ((g.days.map fun d => d.want).map V.int) hD (by rw [List.length_map, List.length_map, hxs]) (by omega) (fun H s => s.seq hs) (fun _ _ _ _ y => yat_same y) (fun i x y H0 H4 hi s4 yy hy R hR2 => ?_) (fun H1 s1 hH1 => ?_)
    · obtain ⟨rfl, hx⟩ := yy
      obtain ⟨dd, hdd, hxd⟩ := ha.get hx
      rw [List.getElem?_map] at hdd
      rw [List.getElem?_map, List.getElem?_map] at hy
      cases hc : g.days[i]? with
      | none => rw [hc] at hdd; cases hdd
      | some c =>
        rw [hc] at hdd hy
        cases hdd
        cases hy
        obtain ⟨t, rfl, ht⟩ := (hxd.same s4).day
        walk_at "wp"
        refine ⟨_, ht, rfl, ?_⟩
        walk_at "wp"
        exact hR2 _ (Same.refl _)
    · have wAt : ∀ k, k < g.days.length → atI ((g.days.map fun d => d.want).map V.int) (k : Int) = some (.int (wantN g k)) := fun k hk => atI_nat (by
        rw [List.getElem?_map, List.getElem?_map, List.getElem?_eq_getElem hk]
        unfold wantN
        rw [List.getElem?_eq_getElem hk]
        rfl)
      have wNN : ∀ k, k < g.days.length → 0 ≤ wantN g k := fun k hk => by
        unfold wantN
        rw [List.getElem?_eq_getElem hk]
        have := hok _ (List.getElem_mem hk)
        simp only [dayD, dayB, numD, Bool.and_eq_true, decide_eq_true_eq] at this
        exact this.1.1.1.1
      walk_at "wp"
      refine ⟨⟨by omega, by omega, by omega, by omega⟩, fun D2 hD2 => ?_⟩
      rw [show ((m : Int) - (f : Int)).toNat = m - f by omega]
      have ne : D2 ≠ D := fun z => by rw [z, hH1] at hD2; cases hD2
      refine LcR.by walk_range (fun i H' => Same H1 H' ∧ ∃ rs : List Addr, H' D2 = some (.lst (rs.map V.ref)) ∧ planV g H' D2 rs (strE g b f (f + i)) ∧ ∀ r ∈ rs, H1 r = none) ⟨same_upd hD2, [], upd_same, by unfold strE; rw [Nat.add_zero, Nat.sub_self]; exact .nil, fun r hr => by cases hr⟩ (fun _ _ _ _ => trivial) (fun i v H0 H2 hi hI hY => ?_) (fun H2 hI => ?_)
      · obtain ⟨rfl, rfl⟩ := hY
        obtain ⟨S2, rs, er, hp, hr⟩ := hI
        have hk : f + i < g.days.length := by omega
        have hw0 := wNN (f + i) hk
        have hpl := hp.length
        have hsl := strE_len g b f (f + i)
        dsimp only
        rw [show (f : Int) + (i : Int) = ((f + i : Nat) : Int) by omega]
        rw [strE_snoc]
        walk_at "wp"
        refine ⟨_, _, SqL.of (S2 _ _ hH1), wAt (f + i) hk, ?_⟩
        walk_at "wp"
        by_cases e : wantN g (f + i) ≠ 0
        · rw [if_pos e, show decide (0 < wantN g (f + i)) = true from decide_eq_true (by omega)]
          walk_at "wp"
          refine ⟨_, _, SqL.of (S2 _ _ hH1), wAt (f + i) hk, sz100 (by decide), fun t ht => ?_⟩
          have S3 := same_upd (o := .tup [V.int (b : Int), V.int 0, V.int ((f + i : Nat) : Int), V.int (wantN g (f + i))]) ht
          have E3 : upd H2 t (.tup [V.int (b : Int), V.int 0, V.int ((f + i : Nat) : Int), V.int (wantN g (f + i))]) t = some (.tup [V.int (b : Int), V.int 0, V.int ((f + i : Nat) : Int), V.int (wantN g (f + i))]) := upd_same
          generalize upd H2 t (.tup [V.int (b : Int), V.int 0, V.int ((f + i : Nat) : Int), V.int (wantN g (f + i))]) = H3 at S3 E3 ⊢
          have nt : t ≠ D2 := fun z => by rw [z, er] at ht; cases ht
          refine ⟨_, S3 _ _ er, sz100l (by rw [List.length_map]; omega), same_mut (S2.trans S3) hD2, rs ++ [t], by rw [upd_same, List.map_append]; rfl, ?_, fun r hr2 => ?_⟩
          · exact Paired.snoc (PySem.Paired.mono (fun r e2 ⟨z1, z2⟩ => ⟨z1, by rw [upd_ne z1]; exact S3 _ _ z2⟩) hp) ⟨nt, by rw [upd_ne nt]; exact E3⟩
          · rcases List.mem_append.mp hr2 with z | z
            · exact hr r z
            · rw [List.mem_singleton.mp z]
              exact S2.free ht
        · rw [if_neg e, List.append_nil, show decide (0 < wantN g (f + i)) = false from decide_eq_false (by omega)]
          walk_at "wp"
          exact ⟨S2, rs, er, hp, hr⟩
      · obtain ⟨S2, rs, er, hp, hr⟩ := hI
        rw [show f + (m - f) = m by omega] at hp
        exact q _ D2 rs (s1.trans S2) (s1.free hD2) er hp fun r h => s1.free (hr r h)
abbrev s_wanted_table : Stmt := top 32
theorem sc_wanted_table : FnScope ["good", "days", "life", "baked", "given"] ["good"] (defScope s_wanted_table) := ⟨rfl, rfl, rfl, by decide +kernel, rfl, by decide +kernel, by decide +kernel⟩
def TabOf (g : Good) (n : Nat) (H' : Hp) (acc : List V) : Prop := acc.length = n ∧ ∀ j, j < n → ∃ p, acc[j]? = some (.ref p) ∧ H' p = some (.lst ((List.range n).map fun k => optV (wantP g j k)))
def spTable (K : PySem.W.Frag) : Sp := fun vs H Q _ => ∃ x g, vs = [x] ∧ Th K H x (goodD g) ∧ okDays g ∧ g.days.length ≤ 1000 ∧ ∀ (H' : Hp) (p : Addr) (acc : List V), Same H H' → H p = none → H' p = some (.lst acc) → TabOf g g.days.length H' acc → Q (.ref p) H'
def TabI (g : Good) (n : Nat) (D : Addr) (H1 : Hp) (i : Nat) (H' : Hp) : Prop := Same H1 H' ∧ ∃ acc : List V, H' D = some (.lst acc) ∧ acc.length = i ∧ ∀ j, j < i → ∃ p, acc[j]? = some (.ref p) ∧ p ≠ D ∧ H' p = some (.lst ((List.range n).map fun k => optV (wantP g j k)))
theorem ok_wanted_table {f : Addr} {fd : FuncData} (F : Fun K "wanted_table" "wanted_table" s_wanted_table f fd) (B : Bi mg) (D_wanted_price : Def P w K mg base "wanted_price" 3 ["good", "baked", "given"] (spWanted K)) : FnOk P w K mg base CX0 4 f fd ["good"] (spTable K) := by
  refine F.ok sc_wanted_table (fun vs H Q E h => ?_) (fun cdv A outer s H vs Q E hr h => ?_)
  · obtain ⟨x, g, rfl, _⟩ := h
    rfl
  · obtain ⟨x, g, rfl, hx, hok, hn1, q⟩ := h
    refine ⟨_, (pss_cons (ps_asg (pv 0) (pg_tup rfl (pgs_cons (pg_name (i := 1) sc_wanted_table.nd rfl (Or.inr rfl)) (pgs_cons (pg_name (i := 2) sc_wanted_table.nd rfl (Or.inl rfl)) pgs_nil))))
 (pss_one (ps_ret (pe_lc (own := [("baked", 3)]) (g := (gName 3)) (te := (tLc (iRng1 (tCons (tCB (rLnL K) _) tNil)) (gName 4) tYes _ [4])) rfl sc_wanted_table.nd (pi_range1 (by rfl) B.range (pa_cons (pe_callB call_lnL (by rfl) B.len (by decide +kernel) (pa_cons (pv 1) pa_nil)) pa_nil)) (blkOk_by (own := [("baked", 3)]) (N := ["good", "days", "life", "baked", "given"]) (sc := defScope s_wanted_table) (by decide +kernel)) (fun _ _ _ _ _ => (pg_name (i := 3) sc_wanted_table.nd rfl (Or.inr rfl))) (fun _ _ _ _ _ => pts_nil) (fun _ _ _ _ _ => (pe_lc (own := [("given", 4)]) (g := (gName 4)) rfl sc_wanted_table.nd (pi_range1 (by rfl) B.range (pa_cons (pe_callB call_lnL (by rfl) B.len (by decide +kernel) (pa_cons (pv 1) pa_nil)) pa_nil)) (blkOk_by (own := [("given", 4)]) (N := ["good", "days", "life", "baked", "given"]) (sc := ({ kind := .function, names := [(".0", .local), ("baked", .cell), ("range", .globalImplicit), ("len", .globalImplicit), ("days", .cell), ("good", .cell)], isGenerator := false, isCoroutine := false } : Scope)) (by decide +kernel)) (fun _ _ _ _ _ => (pg_name (i := 4) sc_wanted_table.nd rfl (Or.inl rfl))) (fun _ _ _ _ _ => pts_nil) (fun _ _ _ _ _ => (pe_callD D_wanted_price hr (by rfl) (pa_cons (pv 0) (pa_cons (pv 3) (pa_cons (pv 4) pa_nil))))))))))), ?_⟩
    obtain ⟨t, a, xs, rfl, ht, hs, ha⟩ := hx.good
    have hxl := ha.length
    rw [List.length_map] at hxl
    walk_at "wp"
    refine ⟨_, ht, rfl, ?_⟩
    walk_at "wp"
    refine ⟨_, hs, ?_⟩
    walk_at "wp"
    refine ⟨by omega, by omega, fun D hD => ?_⟩
    rw [show ((xs.length : Nat) : Int).toNat = g.days.length by omega]
    refine LcR.by walk_range (TabI g g.days.length D H) ⟨same_upd hD, [], upd_same, rfl, fun j h => by omega⟩ (fun _ _ _ _ => trivial) (fun n v H0 H4 hn hI yy => ?_) (fun H4 hI => ?_)
    · obtain ⟨rfl, rfl⟩ := yy
      obtain ⟨s4, acc, hacc, hal, hrow⟩ := hI
      walk_at "wp"
      refine ⟨_, s4.seq hs, ?_⟩
      walk_at "wp"
      refine ⟨by omega, by omega, fun D2 hD2 => ?_⟩
      rw [show ((xs.length : Nat) : Int).toNat = g.days.length by omega]
      have ne : D2 ≠ D := fun e => by rw [e, hacc] at hD2; cases hD2
      refine LcR.map walk_range ((List.range g.days.length).map fun k => optV (wantP g n k)) hD2 (by rw [List.length_map, List.length_range]) (by omega) (fun _ _ => trivial) (fun _ _ _ _ y => yfn_same y) (fun k v y H0 H5 hk s5 yy hy R hR => ?_) (fun H5 s5 hH5 => ?_)
      · obtain ⟨rfl, rfl⟩ := yy
        rw [List.getElem?_map, List.getElem?_range hk] at hy
        cases hy
        walk_at "wp"
        exact ⟨_, g, n, k, rfl, hx.same (s4.trans s5), hok, by omega, by omega, by omega, hR⟩
      · refine ⟨acc, s5 _ _ hacc, sz100l (by omega), same_mut (s4.trans s5) hD, _, upd_same, by rw [List.length_append, hal]; rfl, fun j hj => ?_⟩
        by_cases hjn : j < n
        · obtain ⟨p, e1, e2, e3⟩ := hrow j hjn
          exact ⟨p, by rw [List.getElem?_append_left (by omega)]; exact e1, e2, by rw [upd_ne e2]; exact s5 _ _ e3⟩
        · have ej : j = n := by omega
          subst ej
          exact ⟨D2, by rw [List.getElem?_append_right (by omega), hal, Nat.sub_self]; rfl, ne, by rw [upd_ne ne]; exact hH5⟩
    · obtain ⟨s4, acc, hacc, hal, hrow⟩ := hI
      exact q _ D acc s4 hD hacc ⟨hal, fun j hj => by obtain ⟨p, e1, _, e3⟩ := hrow j hj; exact ⟨p, e1, e3⟩⟩
abbrev s_least_row : Stmt := top 37
theorem sc_least_row : FnScope ["bakery", "lights", "bound", "goods", "good", "table", "row", "many", "least"] ["bakery"] (defScope s_least_row) := ⟨rfl, rfl, rfl, by decide +kernel, rfl, by decide +kernel, by decide +kernel⟩
def spRow (K : PySem.W.Frag) : Sp := fun vs H Q _ => ∃ x ls g, vs = [x] ∧ Th K H x (bakD ⟨ls, none, [g]⟩) ∧ bakB (bakD ⟨ls, none, [g]⟩) = true ∧ ∀ (H' : Hp) (p : Addr) (rs : List Int), Same H H' → H p = none → H' p = some (.lst (rs.map V.int)) → rs.length = ls.length + 1 → IsRow g (rowF ls) (rowF rs) ls.length → Q (.ref p) H'
def RowI (v0 v1 v2 v3 v4 v5 : V) (p : Addr) (g : Good) (ls : List Int) (H : Hp) (i : Nat) (σ : L2.St) (H' : Hp) : Prop := (∃ y7 y8, σ = [some v0, some v1, some v2, some v3, some v4, some v5, some (.ref p), y7, y8]) ∧ Same H H' ∧ ∃ rs : List Int, H' p = some (.lst (rs.map V.int)) ∧ rs.length = i + 1 ∧ IsRow g (rowF ls) (rowF rs) i
theorem ok_least_row {f : Addr} {fd : FuncData} (F : Fun K "least_row" "least_row" s_least_row f fd) (B : Bi mg) (D_look_at_plain : Def P w K mg base "look_at_plain" 8 ["bakery"] (spPlain K .non)) (D_wanted_table : Def P w K mg base "wanted_table" 4 ["good"] (spTable K))
    (D_least_of : Def P w K mg base "least_of" 2 ["row", "lights", "table", "many", "ovens"] (spLeastOf K)) (D_is_unwanted : Def P w K mg base "is_unwanted" 1 ["good", "day"] (spUnw K)) : FnOk P w K mg base CX0 9 f fd ["bakery"] (spRow K) := by
  refine F.ok sc_least_row (fun vs H Q E h => ?_) (fun cdv A outer s H vs Q E hr h => ?_)
  · obtain ⟨x, ls, g, rfl, _⟩ := h
    rfl
  · obtain ⟨x, ls, g, rfl, hx, hb, q⟩ := h
    refine ⟨_, (pss_cons (ps_expr (pe_callD D_look_at_plain hr (by rfl) (pa_cons (pv 0) pa_nil)))
 (pss_cons (ps_asg (pv 0) (pg_tup rfl (pgs_cons (pg_name (i := 1) sc_least_row.nd rfl (Or.inl rfl)) (pgs_cons (pg_name (i := 2) sc_least_row.nd rfl (Or.inl rfl)) (pgs_cons (pg_name (i := 3) sc_least_row.nd rfl (Or.inl rfl)) pgs_nil)))))
 (pss_cons (ps_set (i := 4) sc_least_row.nd rfl (Or.inl rfl) (pe_ix ix_list (pv 3) pe_int (fun _ _ => rfl)))
 (pss_cons (ps_set (i := 5) sc_least_row.nd rfl (Or.inl rfl) (pe_callD D_wanted_table hr (by rfl) (pa_cons (pv 4) pa_nil)))
 (pss_cons (ps_set (i := 6) sc_least_row.nd rfl (Or.inl rfl) (pe_lst (pa_cons pe_int pa_nil)))
 (pss_cons (ps_for PassesOwn.never rfl (pi_range2 (by rfl) B.range (pa_cons pe_int (pa_cons (pe_op op_add (pe_callB call_lnL (by rfl) B.len (by decide +kernel) (pa_cons (pv 1) pa_nil)) pe_int) pa_nil))) (pg_name (i := 7) sc_least_row.nd rfl (Or.inl rfl)) (pss_cons (ps_set (i := 8) sc_least_row.nd rfl (Or.inl rfl) (pe_callD D_least_of hr (by rfl) (pa_cons (pv 6) (pa_cons (pv 1) (pa_cons (pv 5) (pa_cons (pv 7) (pa_cons (pe_listRg rfl (by rfl) B.list (prg_1 (by rfl) B.range (pv 7))) pa_nil)))))))
 (pss_cons (ps_if (pt_val (pe_callD D_is_unwanted hr (by rfl) (pa_cons (pv 4) (pa_cons (pe_op op_sub (pv 7) pe_int) pa_nil)))) (pss_one (ps_set (i := 8) sc_least_row.nd rfl (Or.inl rfl) (pe_callB (call_mn rfl) (by rfl) B.min (by decide +kernel) (pa_cons (pv 8) (pa_cons (pe_ix ix_list (pv 6) (pe_op op_sub (pv 7) pe_int) (fun _ _ => rfl)) pa_nil))))) pss_nil)
 (pss_one (ps_expr (pe_bm PySem.F.plainAttrs_list PySem.F.slot_list_append PySem.F.type_list_append mt_append (pv 6) (pa_cons (pv 8) pa_nil)))))))
 (pss_one (ps_ret (pv 6))))))))), ?_⟩
    obtain ⟨⟨c1, c2⟩, c3, _, _, c7⟩ := bak_parts hb
    obtain ⟨c8, c9, hok⟩ := c7 g (List.mem_singleton.mpr rfl)
    dsimp only at c1 c2 c3 c8
    walk_at "wp"
    refine ⟨_, _, rfl, hx, hb, rfl, rfl, fun H1 s1 => ?_⟩
    obtain ⟨a, l, v2, ga, xl, xg, rfl, ht, hl, hla, h2, hgl, hga⟩ := Th.bak (hx.same s1)
    obtain ⟨vg, hv, hvg⟩ := hga.get' (i := 0) (d := goodD g) rfl
    have hln := hla.length
    rw [List.length_map] at hln
    dsimp only at hln
    walk_at "wp"
    refine ⟨_, ht, rfl, ?_⟩
    walk_at "wp"
    refine ⟨_, _, hgl, atI_nat hv, ?_⟩
    walk_at "wp"
    refine ⟨_, g, rfl, hvg, hok, by omega, fun H4 D acc s4 hD0 hacc hrow => ?_⟩
    obtain ⟨hal, hrow⟩ := hrow
    walk_at "wp"
    have hx4 := s1.trans s4
    refine ⟨sz100 (by decide), fun p hp => ⟨_, (same_upd hp).seq (s4.seq hl), ?_⟩⟩
    walk_at "wp"
    refine ⟨⟨by omega, by omega, by omega, by omega⟩, ?_⟩
    have hHp : H p = none := by
      cases e : H p with
      | none => rfl
      | some o => rw [hx4 _ _ e] at hp; cases hp
    rw [show ((xl.length : Int) + 1 - 1).toNat = ls.length by omega]
    refine LoopR.by walk_range (RowI (.ref a) (.ref l) v2 (.ref ga) vg (.ref D) p g ls H4) ⟨⟨_, _, rfl⟩, same_upd hp, [0], upd_same, rfl, IsRow.init _ _⟩ (fun _ _ _ _ _ => trivial) (fun i v σ H0 H5 hi hI yy => ?_) (fun σ H5 hI => ?_)
    · obtain ⟨rfl, rfl⟩ := yy
      obtain ⟨⟨y7, y8, rfl⟩, s5, rs, hrs, hrl, hR⟩ := hI
      have hxl : xl = ls.map V.int := hla.intsV
      have ei : (1 : Int) + (i : Int) = ((i + 1 : Nat) : Int) := by omega
      have hdi : i < g.days.length := by omega
      have hd : g.days[i]? = some g.days[i] := List.getElem?_eq_getElem hdi
      generalize g.days[i] = d at hd
      have s15 := s4.trans s5
      dsimp only
      rw [ei]
      walk_at "wp"
      refine ⟨RgOk.of_le (by omega) (by omega) (by omega) (by omega), fun oa hoa0 => ?_⟩
      have so := same_upd (o := .lst (rgV 0 ((i + 1 : Nat) : Int))) hoa0
      have hoa : upd H5 oa (.lst (rgV 0 ((i + 1 : Nat) : Int))) oa = some (.lst ((List.range (i + 1)).map fun j : Nat => V.int (j : Int))) := by rw [upd_same, rgV_zero]
      generalize upd H5 oa (.lst (rgV 0 ((i + 1 : Nat) : Int))) = H5' at so hoa ⊢
      have s5 := s5.trans so
      have s15 := s4.trans s5
      have hrs := so _ _ hrs
      refine ⟨p, l, D, oa, rs.map V.int, xl, acc, rowF rs, rowF ls, wantP g, i, i + 1, rfl, SqL.of hrs, s15.seq hl, SqL.of (s5 _ _ hacc), SqL.of hoa, fun j hj => rowF_get (by omega), fun j hj => by rw [hxl]; exact rowF_get (by omega), fun j hj => ?_, by omega, by omega, ⟨_, own_chC (by omega) hd (life_ok c9)⟩, fun v H6 s6 hv hmin => ?_⟩
      · obtain ⟨p2, e1, e3⟩ := hrow j (by omega)
        refine ⟨p2, _, e1, SqL.of (s5 _ _ e3), fun k hk => ?_⟩
        rw [List.getElem?_map, List.getElem?_range (by omega)]
        rfl
      · have hrs6 := s6 _ _ hrs
        have fin : ∀ (u : Int) (y7 y8 : Option V), Choice g (rowF ls) (rowF rs) i u → (∀ z, Choice g (rowF ls) (rowF rs) i z → u ≤ z) → RowI (.ref a) (.ref l) v2 (.ref ga) vg (.ref D) p g ls H4 (i + 1) [some (.ref a), some (.ref l), some v2, some (.ref ga), some vg, some (.ref D), some (.ref p), y7, y8] (upd H6 p (.lst (rs.map V.int ++ [.int u]))) := fun u y7 y8 h1 h2 =>
          ⟨⟨_, _, rfl⟩, same_mut (s5.trans s6) hp, rs ++ [u], by rw [upd_same, List.map_append]; rfl, by rw [List.length_append, hrl]; rfl, hR.snoc hrl h1 h2⟩
        have hlen : (rs.map V.int).length < sizeLine := sz100l (by rw [List.length_map]; omega)
        walk_at "wp"
        refine ⟨_, g, d, i, by rw [show ((i + 1 : Nat) : Int) - 1 = (i : Int) by omega], hvg.same (s15.trans s6), hd, ?_⟩
        walk_at "wp"
        refine ite2 (fun h => ?_) (fun h => ?_)
        · have hw : d.want = 0 := of_decide_eq_true h
          refine ⟨_, _, SqL.of hrs6, by rw [show ((i + 1 : Nat) : Int) - 1 = (i : Int) by omega]; exact atI_nat (rowF_get (by omega)), ?_⟩
          walk_at "wp"
          refine ⟨tyL (SqL.of hrs6), _, hrs6, hlen, fin _ _ _ ?_ ?_⟩
          · split
            · exact .inr ⟨⟨d, hd, hw⟩, rfl⟩
            · exact chC_choice hv
          · intro z hz
            have k : z = rowF rs i ∨ v ≤ z := by
              rcases choice_chC hz with hz | hz
              · exact .inr (hmin z hz)
              · exact .inl hz
            split <;> omega
        · have hw : ¬ d.want = 0 := fun z => h (decide_eq_true z)
          exact ⟨tyL (SqL.of hrs6), _, hrs6, hlen, fin v _ _ (chC_choice hv) fun z hz => hmin z (choice_not hd hw hz)⟩
    · obtain ⟨⟨y7, y8, rfl⟩, s5, rs, hrs, hrl, hR⟩ := hI
      walk_at "wp"
      exact q _ p rs (hx4.trans s5) hHp hrs hrl hR
end
end Bk

namespace Bk
open PySem PySem.Spec PyProof.Rows L2
local macro_rules | `(tactic| walk_at "wp") => `(tactic| try simp only [rMinN_r, tCKw, iRng3_eq, rRng3_i, rNeN_r, tAugS, rIsDX_list, tScT2, rSetL_r, rSetOf2_r, rSorDT_r, rSetD, tDGet2, tDGet, tDNewT, cxW, rExtend_r, rSortU_r, rSetOf_r, rSortedSet_r, rNinr_r, rNeN_r, rCatL_r, rSlT_r, rListOf_r, rIsB_b, rNotB_b, tFmtO, tJs, tOst, tCallS, WE, tRaise2, rOne_i, rSorD_r, tDNewK, Int.zero_add, tNever, tFor_eq, tLc_eq, iList, iTup, iRng1_eq, rRng1_i, iRng2_eq, rRng2_i, iEnum_eq, rEnum_r, iZip_eq, rZip_r, tSl, tPart, tNoPart, rSlL_r, rCat_r, rIn_r, rNin_r, rRepr_r, iRevR, rMin_r, rShr_i, rOdd_i, rSetL_r, gSub, rRg1_i, rRg2_i, rInr_r, tAug, ipI_ii, tLstRg, tRg1, tRg2, gTup_r, gUnl_r, rInt1_b, rInt1_i, rRep_r, tStep_r, scal, tSeq, tNext, tAsg, tRet, tRetN, tIfS, tDrop, tCB, tCons, tNil, tVar, tOp, tUn, tC, rU_i, rI_ii, rI0_ii, rEq, rNe, tTest, tB, tAnd, tOr, tNot, tAndV, tOrV, tNotV, tIf, tChain, tLst, tTup, tBM, tBM0, rAppend_r, rIxL_r, rIxT_r, rMx_ii, rMn_ii, rLnL_r, rLnT_r, rIsD_int, rIsD_bool, rIsD_list, rIsD_tuple, tCall, gName, gNil_n, gCons_c, cxK, L2.start, List.map, List.replicate, List.length_cons, List.length_nil, List.cons_append, List.nil_append, List.append_nil, List.getElem?_cons_zero, List.getElem?_cons_succ, Option.some.injEq, exists_eq_left', exists_eq_left, V.int.injEq, V.bl.injEq, V.str.injEq, V.ref.injEq, List.cons.injEq, and_true, true_and, and_self, List.set, wipe, rAll_r, rSum_r, reduceCtorEq, decide_true, decide_false, reduceIte, ite_true, ite_false, if_true, if_false, Bool.false_eq_true, Bool.not_true, Bool.not_false])
local macro_rules | `(tactic| walk_at "shaped") => `(tactic| (simp only [rMinN_r, tCKw, iRng3_eq, rRng3_i, rNeN_r, tAugS, rIsDX_list, SeqAt.shaped, PyData.canLay0, PyData.canLayAll0, PyData.depth, PyData.depthAll]; rfl))
local macro_rules | `(tactic| walk_at "lay") => `(tactic| (simp only [rMinN_r, tCKw, iRng3_eq, rRng3_i, rNeN_r, tAugS, rIsDX_list, PyData.canLay0, PyData.canLayAll0]; rfl))
local macro_rules | `(tactic| walk_at "wg") => `(tactic| try simp only [gName, gTup_r, gCons_c, gNil_n, cxK, List.set, List.cons.injEq, and_true, true_and, exists_eq_left', exists_eq_left, List.length_cons, List.length_nil])
theorem alloc {H : Hp} {p : Addr} (o : HO) (h : H p = none) : ∃ H', upd H p o = H' ∧ Same H H' ∧ H' p = some o := ⟨_, rfl, same_upd h, upd_same⟩
section
variable {P : Program} {w : World} {K : PySem.W.Frag} {mg : Str → Option Value} {base : Heap}
abbrev s_dough_table : Stmt := top 59
theorem sc_dough_table : FnScope ["good", "doughs", "mixed", "days", "life", "table", "baked", "costs", "each", "cost", "day"] ["good", "doughs", "mixed"] (defScope s_dough_table) := ⟨rfl, rfl, rfl, by decide +kernel, rfl, by decide +kernel, by decide +kernel⟩
/-- what loaves mixed on day e cost, by day of baking -/
def DTab (ds : List Dgh) (g : Good) (e : Nat) (H : Hp) (acc : List V) : Prop := acc.length = g.days.length - e ∧ ∀ i, i < g.days.length - e → ∃ q, acc[i]? = some (.ref q) ∧ H q = some (.lst ((List.range g.days.length).map fun k => optV (wantD ds g e (e + i) k)))
def spDTab (K : PySem.W.Frag) : Sp := fun vs H Q _ => ∃ x g y ds, ∃ e : Nat, vs = [x, y, .int (e : Int)] ∧ Th K H x (goodD g) ∧ okDays g ∧ g.days.length ≤ 1000 ∧ Th K H y (doughsD ds) ∧ ds.length = g.days.length ∧ e < ds.length ∧ ∀ (H' : Hp) (p : Addr) (acc : List V), Same H H' → H p = none → H' p = some (.lst acc) → DTab ds g e H' acc → Q (.ref p) H'
structure DtI (ds : List Dgh) (g : Good) (v0 v1 v3 v4 : V) (e : Nat) (D : Addr) (H1 : Hp) (i : Nat) (σ : L2.St) (H' : Hp) : Prop where
  ex : ∃ (y6 y7 y8 y9 y10 : Option V) (acc : List V), σ = [some v0, some v1, some (.int (e : Int)), some v3, some v4, some (.ref D), y6, y7, y8, y9, y10] ∧ Same (but [D] H1) (but [D] H') ∧ H' D = some (.lst acc) ∧ acc.length = i - e ∧ ∀ j, j < i - e → ∃ q, acc[j]? = some (.ref q) ∧ q ≠ D ∧ H' q = some (.lst ((List.range g.days.length).map fun k => optV (wantD ds g e (e + j) k)))
theorem ok_dough_table {f : Addr} {fd : FuncData} (F : Fun K "dough_table" "dough_table" s_dough_table f fd) (B : Bi mg) (Bz : mg "zip" = none) (D_wanted_table : Def P w K mg base "wanted_table" 4 ["good"] (spTable K)) (D_dough_price : Def P w K mg base "dough_price" 1 ["doughs", "mixed", "baked"] (spDghP K)) : FnOk P w K mg base CX0 5 f fd ["good", "doughs", "mixed"] (spDTab K) := by
  refine F.ok sc_dough_table (fun vs H Q E h => ?_) (fun cdv A outer s H vs Q E hr h => ?_)
  · obtain ⟨_, _, _, _, _, rfl, _⟩ := h
    rfl
  · obtain ⟨x, g, y, ds, e, rfl, hx, hok, hn1, hy, hdl, he, q⟩ := h
    refine ⟨_, (pss_cons (ps_asg (pv 0) (pg_tup rfl (pgs_cons (pg_name (i := 3) sc_dough_table.nd rfl (Or.inl rfl)) (pgs_cons (pg_name (i := 4) sc_dough_table.nd rfl (Or.inl rfl)) pgs_nil))))
 (pss_cons (ps_set (i := 5) sc_dough_table.nd rfl (Or.inl rfl) (pe_lst pa_nil))
 (pss_cons (ps_for PassesOwn.never rfl (pi_enum (by rfl) B.enumerate (pa_cons (pe_callD D_wanted_table hr (by rfl) (pa_cons (pv 0) pa_nil)) pa_nil)) (pg_tup rfl (pgs_cons (pg_name (i := 6) sc_dough_table.nd rfl (Or.inl rfl)) (pgs_cons (pg_name (i := 7) sc_dough_table.nd rfl (Or.inl rfl)) pgs_nil))) (pss_one (ps_if (pt_cmpR op_ge (pv 6) (pv 2) (nomark _)) (pss_cons (ps_set (i := 8) sc_dough_table.nd rfl (Or.inr rfl) (pe_callD D_dough_price hr (by rfl) (pa_cons (pv 1) (pa_cons (pv 2) (pa_cons (pv 6) pa_nil)))))
 (pss_one (ps_expr (pe_bm PySem.F.plainAttrs_list PySem.F.slot_list_append PySem.F.type_list_append mt_append (pv 5) (pa_cons (pe_lc (own := [("cost", 9), ("day", 10)]) (g := (gTup K 2 (gCons (gName 9) (gCons (gName 10) gNil)))) (te := (tIf _ _ (tOp _ _ (tOp _ (tOp (rIxT K) _ _) _)))) rfl sc_dough_table.nd (pi_zip (by rfl) Bz (pa_cons (pv 7) (pa_cons (pv 3) pa_nil))) (blkOk_by (own := [("cost", 9), ("day", 10)]) (N := ["good", "doughs", "mixed", "days", "life", "table", "baked", "costs", "each", "cost", "day"]) (sc := defScope s_dough_table) (by decide +kernel)) (fun _ _ _ _ _ => (pg_tup rfl (pgs_cons (pg_name (i := 9) sc_dough_table.nd rfl (Or.inl rfl)) (pgs_cons (pg_name (i := 10) sc_dough_table.nd rfl (Or.inl rfl)) pgs_nil)))) (fun _ _ _ _ _ => pts_nil) (fun _ _ _ _ _ => (pe_ifExp (pt_cmpR op_isN (pv 9) pe_non (nomark _)) pe_non (pe_op op_add (pv 9) (pe_op op_mul (pe_ix ix_tup (pv 10) pe_int (fun _ _ => rfl)) (pv 8)))))) pa_nil))))) pss_nil)))
 (pss_one (ps_ret (pv 5)))))), ?_⟩
    obtain ⟨t, a, xs, rfl, ht, hs, ha⟩ := hx.good
    have hxl := ha.length
    rw [List.length_map] at hxl
    walk_at "wp"
    refine ⟨_, ht, rfl, ?_⟩
    walk_at "wp"
    refine ⟨Nat.zero_le _, fun D hD => ?_⟩
    obtain ⟨H1, e1, S1, E1⟩ := alloc (.lst []) hD
    rw [e1]
    refine ⟨_, g, rfl, hx.same S1, hok, hn1, fun H2 tb rows S2 _ etb htb => ?_⟩
    obtain ⟨hrl, hrows⟩ := htb
    walk_at "wp"
    refine ⟨_, SqL.of etb, ?_⟩
    have eD2 := S2 _ _ E1
    have nD : ∀ {b : Addr} {o : HO}, H b = some o → b ∉ [D] := fun eb z => by rw [List.mem_singleton.mp z, hD] at eb; cases eb
    have S02 : Same H (but [D] H2) := fun b o eb => but_at (nD eb) ((S1.trans S2) _ _ eb)
    have tbD : tb ∉ [D] := fun z => by rw [List.mem_singleton.mp z, eD2] at etb; cases etb; simp at hrl; omega
    have hrw : ∀ j, j < g.days.length → ∃ p, rows[j]? = some (.ref p) ∧ but [D] H2 p = some (.lst ((List.range g.days.length).map fun k => optV (wantP g j k))) := fun j hj => by
      obtain ⟨p, h1, h2⟩ := hrows j hj
      exact ⟨p, h1, but_at (fun z => by rw [List.mem_singleton.mp z, eD2] at h2; have h3 := congrArg List.length (HO.lst.inj (Option.some.inj h2)); rw [List.length_map, List.length_range] at h3; simp at h3; omega) h2⟩
    have etb' : but [D] H2 tb = some (.lst rows) := but_at tbD etb
    have hy2 := hy.same S02
    have hs2 := S02.seq hs
    have ha2 := ha.same S02
    refine LoopR.by (walk_enum (xs := rows)) (DtI ds g (.ref t) y (.ref a) (optV g.life) e D H2) ⟨none, none, none, none, none, [], rfl, Same.refl _, eD2, by rw [Nat.zero_sub]; rfl, fun j hj => by omega⟩ (fun i σ H' _ hI => ?_) (fun i v σ G0 G1 hi hI yy => ?_) (fun σ G hI => ?_)
    · obtain ⟨_, _, _, _, _, _, _, S3, _, _, _⟩ := hI.ex
      exact SqL.of (but_is (S3 _ _ etb')).2
    · obtain ⟨y6, y7, y8, y9, y10, acc, rfl, S3, eD, hal, hacc⟩ := hI.ex
      have SY := ypair_same yy
      obtain ⟨T, z1, z2, rfl, hT, rfl, e1, e2⟩ := yy
      cases e1
      have e2 : rows[i]? = some z2 := e2
      obtain ⟨p, hp, hpw⟩ := hrw i (by omega)
      rw [hp] at e2
      cases e2
      have eT : upd G0 T (.tup [V.int (i : Int), V.ref p]) T = some (.tup [V.int (i : Int), V.ref p]) := upd_same
      have S3 := S3.trans (but_mono SY)
      have eD := SY _ _ eD
      have hacc : ∀ j, j < i - e → ∃ q, acc[j]? = some (.ref q) ∧ q ≠ D ∧ upd G0 T (.tup [V.int (i : Int), V.ref p]) q = some (.lst ((List.range g.days.length).map fun k => optV (wantD ds g e (e + j) k))) := fun j hj => by
        obtain ⟨qq, h1, h2, h3⟩ := hacc j hj
        exact ⟨qq, h1, h2, SY _ _ h3⟩
      generalize upd G0 T (.tup [V.int (i : Int), V.ref p]) = G1 at SY eT S3 eD hacc ⊢
      rw [gTup_r]
      refine ⟨_, SqT.of eT, rfl, ?_⟩
      walk_at "wp"
      by_cases hei : (e : Int) ≤ (i : Int)
      · rw [if_pos (decide_eq_true hei)]
        have sB3 := (but_same [D] H2)
        have S3' := S3.trans (but_same _ _)
        refine ⟨y, ds, e, i, rfl, hy2.same S3', he, by omega, fun H4 S4 => ?_⟩
        have S34 := S3'.trans S4
        refine ⟨tyL (SqL.of (S4 _ _ eD)), ?_⟩
        refine ⟨_, _, SqL.of (S34 _ _ hpw), S34.seq hs2, fun D1 hD1 => ?_⟩
        have hwl : ((List.range g.days.length).map fun k => optV (wantP g i k)).length = g.days.length := by rw [List.length_map, List.length_range]
        refine LcR.map (walk_zip (n := g.days.length) (xs := (List.range g.days.length).map fun k => optV (wantP g i k)) (ys := xs) (by rw [hwl, hxl]; omega)) ((List.range g.days.length).map fun k => optV (wantD ds g e (e + (i - e)) k)) hD1 (by rw [List.length_map, List.length_range]) (by omega) (fun H5 s5 => ⟨SqL.of (s5 _ _ (S34 _ _ hpw)), s5.seq (S34.seq hs2)⟩) (fun _ _ _ _ y => ypair_same y) (fun k v y0 K0 K1 hk s5 yy hyv R hR => ?_) (fun H5 S5 hH5 => ?_)
        · have SYY := ypair_same yy
          obtain ⟨T2, u1, u2, rfl, hT2, rfl, g1, g2⟩ := yy
          have g1 : ((List.range g.days.length).map fun k => optV (wantP g i k))[k]? = some u1 := g1
          have g2 : xs[k]? = some u2 := g2
          rw [List.getElem?_map, List.getElem?_range hk] at g1 hyv
          cases g1
          cases hyv
          have hdk : g.days[k]? = some g.days[k] := List.getElem?_eq_getElem hk
          generalize g.days[k] = dd at hdk
          obtain ⟨vd, hvd, hvt⟩ := ha2.get' (i := k) (d := dayD dd) (by rw [List.getElem?_map, hdk]; rfl)
          rw [hvd] at g2
          cases g2
          obtain ⟨td, rfl, htd⟩ := hvt.day
          walk_at "wp"
          have htd' := Same.tup (S34.trans s5) htd
          dsimp only at hR SYY htd' ⊢
          have eT2 : upd K0 T2 (.tup [optV (wantP g i k), V.ref td]) T2 = some (.tup [optV (wantP g i k), V.ref td]) := upd_same
          generalize upd K0 T2 (.tup [optV (wantP g i k), V.ref td]) = K2 at SYY eT2 htd' hR ⊢
          refine ⟨_, SqT.of eT2, rfl, ?_⟩
          walk_at "wp"
          have ew : wantN g k = dd.want := by
            unfold wantN
            rw [hdk]
          have eD1 : wantD ds g e (e + (i - e)) k = (wantP g i k).map (· + wantN g k * doughP ds e i) := by
            rw [show e + (i - e) = i by omega]
            rfl
          rw [eD1] at hR
          cases hw : wantP g i k with
          | none =>
            rw [hw] at hR
            simp only [optV]
            walk_at "wp"
            exact hR _ (Same.refl _)
          | some c =>
            rw [hw] at hR
            simp only [optV]
            walk_at "wp"
            refine ⟨_, _, htd', atI_nat (j := 0) rfl, ?_⟩
            walk_at "wp"
            have hdok := hok dd (List.mem_of_getElem? hdk)
            simp only [dayB, dayD, numD, Bool.and_eq_true, decide_eq_true_eq] at hdok
            refine ⟨.inl ⟨by omega, by omega⟩, ?_⟩
            rw [← ew]
            exact hR _ (Same.refl _)
        · refine ⟨acc, S5 _ _ (S4 _ _ eD), sz100l (by omega), ?_⟩
          have hne : D1 ≠ D := fun z => by rw [z, S4 _ _ eD] at hD1; cases hD1
          refine ⟨_, _, _, _, _, acc ++ [V.ref D1], rfl, ?_, upd_same, by rw [List.length_append, hal]; show i - e + 1 = _; omega, fun j hj => ?_⟩
          · rw [but_upd (by simp)]
            exact S3.trans (but_mono (S4.trans S5))
          · by_cases hji : j < i - e
            · obtain ⟨qq, h1, h2, h3⟩ := hacc j hji
              exact ⟨qq, by rw [List.getElem?_append_left (by omega)]; exact h1, h2, by rw [upd_ne h2]; exact (S4.trans S5) _ _ h3⟩
            · have ej : j = i - e := by omega
              subst ej
              exact ⟨D1, by rw [List.getElem?_append_right (by omega), hal, Nat.sub_self]; rfl, hne, by rw [upd_ne hne]; exact hH5⟩
      · rw [if_neg (by rw [decide_eq_false hei]; decide)]
        exact ⟨_, _, _, _, _, acc, rfl, S3, eD, by omega, fun j hj => hacc j (by omega)⟩
    · obtain ⟨y6, y7, y8, y9, y10, acc, rfl, S3, eD, hal, hacc⟩ := hI.ex
      walk_at "wp"
      refine q _ D acc (S02.trans (S3.trans (but_same _ _))) hD eD ⟨by omega, fun j hj => ?_⟩
      obtain ⟨qq, h1, _, h2⟩ := hacc j (by omega)
      exact ⟨qq, h1, h2⟩
end
end Bk


namespace Bk
open PySem PySem.Spec PyProof.Rows L2
local macro_rules | `(tactic| walk_at "wp") => `(tactic| try simp only [rMinN_r, tCKw, iRng3_eq, rRng3_i, rNeN_r, tAugS, rIsDX_list, tScT2, rSetL_r, rSetOf2_r, rSorDT_r, rSetD, tDGet2, tDGet, tDNewT, cxW, rExtend_r, rSortU_r, rSetOf_r, rSortedSet_r, rNinr_r, rNeN_r, rCatL_r, rSlT_r, rListOf_r, rIsB_b, rNotB_b, tFmtO, tJs, tOst, tCallS, WE, tRaise2, rOne_i, rSorD_r, tDNewK, Int.zero_add, tNever, tFor_eq, tLc_eq, iList, iTup, iRng1_eq, rRng1_i, iRng2_eq, rRng2_i, iEnum_eq, rEnum_r, iZip_eq, rZip_r, tSl, tPart, tNoPart, rSlL_r, rCat_r, rIn_r, rNin_r, rRepr_r, iRevR, rMin_r, rShr_i, rOdd_i, rSetL_r, gSub, rRg1_i, rRg2_i, rInr_r, tAug, ipI_ii, tLstRg, tRg1, tRg2, gTup_r, gUnl_r, rInt1_b, rInt1_i, rRep_r, tStep_r, scal, tSeq, tNext, tAsg, tRet, tRetN, tIfS, tDrop, tCB, tCons, tNil, tVar, tOp, tUn, tC, rU_i, rI_ii, rI0_ii, rEq, rNe, tTest, tB, tAnd, tOr, tNot, tAndV, tOrV, tNotV, tIf, tChain, tLst, tTup, tBM, tBM0, rAppend_r, rIxL_r, rIxT_r, rMx_ii, rMn_ii, rLnL_r, rLnT_r, rIsD_int, rIsD_bool, rIsD_list, rIsD_tuple, tCall, gName, gNil_n, gCons_c, cxK, L2.start, List.map, List.replicate, List.length_cons, List.length_nil, List.cons_append, List.nil_append, List.append_nil, List.getElem?_cons_zero, List.getElem?_cons_succ, Option.some.injEq, exists_eq_left', exists_eq_left, V.int.injEq, V.bl.injEq, V.str.injEq, V.ref.injEq, List.cons.injEq, and_true, true_and, and_self, List.set, wipe, rAll_r, rSum_r, reduceCtorEq, decide_true, decide_false, reduceIte, ite_true, ite_false, if_true, if_false, Bool.false_eq_true, Bool.not_true, Bool.not_false])
local macro_rules | `(tactic| walk_at "shaped") => `(tactic| (simp only [rMinN_r, tCKw, iRng3_eq, rRng3_i, rNeN_r, tAugS, rIsDX_list, SeqAt.shaped, PyData.canLay0, PyData.canLayAll0, PyData.depth, PyData.depthAll]; rfl))
local macro_rules | `(tactic| walk_at "lay") => `(tactic| (simp only [rMinN_r, tCKw, iRng3_eq, rRng3_i, rNeN_r, tAugS, rIsDX_list, PyData.canLay0, PyData.canLayAll0]; rfl))
local macro_rules | `(tactic| walk_at "wg") => `(tactic| try simp only [gName, gTup_r, gCons_c, gNil_n, cxK, List.set, List.cons.injEq, and_true, true_and, exists_eq_left', exists_eq_left, List.length_cons, List.length_nil])
section
variable {P : Program} {w : World} {K : PySem.W.Frag} {mg : Str → Option Value} {base : Heap}
abbrev s_least_mixed : Stmt := top 62
theorem sc_least_mixed : FnScope ["rungs", "lights", "table", "unwanted", "many", "costs", "light", "prices", "cost"] ["rungs", "lights", "table", "unwanted"] (defScope s_least_mixed) := ⟨rfl, rfl, rfl, by decide +kernel, rfl, by decide +kernel, by decide +kernel⟩
/-- the least of the choices, none where there is none -/
structure NextO (ds : List Dgh) (g : Good) (lights : Nat → Int) (n : Nat) (row : Nat → Int) (e d : Nat) (o : Option Int) : Prop where
  le : ∀ v, ChD ds g lights n (fun _ => row) e d v → ∃ w, o = some w ∧ w ≤ v
  is : ∀ w, o = some w → ChD ds g lights n (fun _ => row) e d w
def spLeastM (K : PySem.W.Frag) : Sp := fun vs H Q _ => ∃ (ra la ta : Addr) (rs : List Int) (lxs acc : List V) (ds : List Dgh) (g : Good) (lights : Nat → Int) (e d : Nat), vs = [.ref ra, .ref la, .ref ta, .bl (decide (wantN g d = 0))] ∧ SqL K H ra (rs.map V.int) ∧ rs.length = d + 1 ∧ SqL K H la lxs ∧ lxs.length = g.days.length - e ∧ (∀ i, i < g.days.length - e → lxs[i]? = some (.int (lights (e + i)))) ∧ SqL K H ta acc ∧ DTab ds g e H acc ∧ d < g.days.length ∧ g.days.length ≤ 100 ∧
  ∀ H' o, Same H H' → NextO ds g lights g.days.length (rowF rs) e d o → Q (optV o) H'
theorem rowF_at {xs : List Int} {j : Nat} (h : j < xs.length) : xs[j]? = some (rowF xs j) := by
  unfold rowF
  rw [List.getD_eq_getElem?_getD, List.getElem?_eq_getElem h]
  rfl
theorem lbo_next {ds : List Dgh} {g : Good} {lights row : Nat → Int} {e d i : Nat} {v : Int} (hi : i < g.days.length - e) (h : lbo row (wantD ds g e (e + i)) (d + 1) (lights (e + i)) none = some v) : ChD ds g lights g.days.length (fun _ => row) e d v := by
  rcases lbo_from _ _ _ _ h with z | ⟨f, s, h1, h2, h3⟩
  · cases z
  · exact .inl ⟨e + i, f, s, by omega, by omega, by omega, h2, h3⟩
def fmO (l : List (Option Int)) : List Int := l.filterMap id
theorem fmO_len (l : List (Option Int)) : (fmO l).length ≤ l.length := List.length_filterMap_le _ _
theorem fmO_snoc (l : List (Option Int)) (o : Option Int) : fmO (l ++ [o]) = fmO l ++ o.toList := by
  unfold fmO
  rw [List.filterMap_append]
  cases o <;> rfl
theorem ok_least_mixed {f : Addr} {fd : FuncData} (F : Fun K "least_mixed" "least_mixed" s_least_mixed f fd) (B : Bi mg) (Bz : mg "zip" = none) (D_least_baked_on : Def P w K mg base "least_baked_on" 1 ["row", "light", "prices", "many"] (spLbo K)) : FnOk P w K mg base CX0 2 f fd ["rungs", "lights", "table", "unwanted"] (spLeastM K) := by
  refine F.ok sc_least_mixed (fun vs H Q E h => ?_) (fun cdv A outer s H vs Q E hr h => ?_)
  · obtain ⟨_, _, _, _, _, _, _, _, _, _, _, rfl, _⟩ := h
    rfl
  · obtain ⟨ra, la, ta, rs, lxs, acc, ds, g, lights, e, d, rfl, hra, hrl, hla, hll, hlx, hta, ⟨hal, hacc⟩, hd, hn, q⟩ := h
    refine ⟨_, (pss_cons (ps_set (i := 4) sc_least_mixed.nd rfl (Or.inr rfl) (pe_callB call_lnL (by rfl) B.len (by decide +kernel) (pa_cons (pv 0) pa_nil)))
 (pss_cons (ps_setLc (i := 5) (own := [("light", 6), ("prices", 7)]) (g := (gTup K 2 (gCons (gName 6) (gCons (gName 7) gNil)))) rfl sc_least_mixed.nd rfl rfl (sw_true rfl rfl rfl (by decide +kernel)) (pi_zip (by rfl) Bz (pa_cons (pv 1) (pa_cons (pv 2) pa_nil))) (blkOk_by (own := [("light", 6), ("prices", 7)]) (N := ["rungs", "lights", "table", "unwanted", "many", "costs", "light", "prices", "cost"]) (sc := defScope s_least_mixed) (by decide +kernel)) (fun _ _ _ _ _ => (pg_tup rfl (pgs_cons (pg_name (i := 6) sc_least_mixed.nd rfl (Or.inl rfl)) (pgs_cons (pg_name (i := 7) sc_least_mixed.nd rfl (Or.inl rfl)) pgs_nil)))) (fun _ _ _ _ _ => pts_nil) (fun _ _ _ _ _ => (pe_callD D_least_baked_on hr (by rfl) (pa_cons (pv 0) (pa_cons (pv 6) (pa_cons (pv 7) (pa_cons (pv 4) pa_nil)))))))
 (pss_cons (ps_if (pt_val (pv 3)) (pss_one (ps_expr (pe_bm PySem.F.plainAttrs_list PySem.F.slot_list_append PySem.F.type_list_append mt_append (pv 5) (pa_cons (pe_ix ix_list (pv 0) (pe_un un_neg pe_int) (fun _ _ => rfl)) pa_nil)))) pss_nil)
 (pss_one (ps_ret (pe_callBK (cr_minN rfl hr.units) (by rfl) B.min (by decide +kernel) (pa_cons (pe_lc (own := [("cost", 8)]) (g := (gName 8)) rfl sc_least_mixed.nd (pi_list (pv 5)) (blkOk_by (own := [("cost", 8)]) (N := ["rungs", "lights", "table", "unwanted", "many", "costs", "light", "prices", "cost"]) (sc := defScope s_least_mixed) (by decide +kernel)) (fun _ _ _ _ _ => (pg_name (i := 8) sc_least_mixed.nd rfl (Or.inl rfl))) (fun _ _ _ _ _ => (pts_one (pt_cmpR op_notN (pv 8) pe_non (nomark _)))) (fun _ _ _ _ _ => (pv 8))) pa_nil) (pk_cons pe_non pk_nil))))))), ?_⟩
    walk_at "wp"
    refine ⟨_, hra, ?_⟩
    rw [List.length_map, hrl]
    walk_at "wp"
    refine ⟨_, _, hla, hta, fun D1 hD1 => ?_⟩
    have os : ∃ os : List (Option Int), os = (List.range (g.days.length - e)).map fun i => lbo (rowF rs) (wantD ds g e (e + i)) (d + 1) (lights (e + i)) none := ⟨_, rfl⟩
    obtain ⟨os, hos⟩ := os
    have hosl : os.length = g.days.length - e := by rw [hos, List.length_map, List.length_range]
    refine LcR.map (walk_zip (n := g.days.length - e) (xs := lxs) (ys := acc) (by omega)) (os.map optV) hD1 (by rw [List.length_map, hosl]) (by omega) (fun H5 s5 => ⟨s5.seq hla, s5.seq hta⟩) (fun _ _ _ _ y => ypair_same y) (fun i v y0 K0 K1 hi s5 yy hyv R hR => ?_) (fun H1 S1 hH1 => ?_)
    · have SYY := ypair_same yy
      obtain ⟨T2, u1, u2, rfl, hT2, rfl, g1, g2⟩ := yy
      have g1 : lxs[i]? = some u1 := g1
      have g2 : acc[i]? = some u2 := g2
      obtain ⟨p, hp, hpw⟩ := hacc i hi
      rw [hlx i hi] at g1
      rw [hp] at g2
      cases g1
      cases g2
      have eT2 : upd K0 T2 (.tup [V.int (lights (e + i)), V.ref p]) T2 = some (.tup [V.int (lights (e + i)), V.ref p]) := upd_same
      generalize upd K0 T2 (.tup [V.int (lights (e + i)), V.ref p]) = K2 at SYY eT2 hR s5 ⊢
      walk_at "wp"
      refine ⟨_, SqT.of eT2, rfl, ?_⟩
      walk_at "wp"
      rw [hos, List.map_map, List.getElem?_map, List.getElem?_range hi] at hyv
      cases hyv
      refine ⟨ra, p, _, _, rowF rs, wantD ds g e (e + i), lights (e + i), d + 1, rfl, s5.seq hra, SqL.of (s5 _ _ hpw), fun j hj => ?_, fun j hj => ?_, by omega, hR _ (Same.refl _)⟩
      · rw [List.getElem?_map, rowF_at (by omega)]
        rfl
      · rw [List.getElem?_map, List.getElem?_range (by omega)]
        rfl
    · walk_at "wp"
      -- the rest, whatever the costs
      have rest : ∀ (G : Hp) (cs : List (Option Int)), Same H G → SqL K G D1 (cs.map optV) → cs.length ≤ 200 → (∀ v, ChD ds g lights g.days.length (fun _ => rowF rs) e d v → ∃ w, some w ∈ cs ∧ w ≤ v) → (∀ w, some w ∈ cs → ChD ds g lights g.days.length (fun _ => rowF rs) e d w) →
          (∃ xs, SqL K G D1 xs) ∧ ∀ (D : Addr), G D = none → LcR (Itl K D1) (gName 8) (tTest (tOp (fun x y H Q => y = V.non ∧ Q (V.bl !decide (x = V.non)) H) (tVar 8) (tC V.non))) (tVar 8) [8] [some (V.ref ra), some (V.ref la), some (V.ref ta), some (V.bl (decide (wantN g d = 0))), some (V.int ((d + 1 : Nat) : Int)), some (V.ref D1), none, none, none] D G fun H => ∃ ns, SqL K H D (List.map V.int ns) ∧ (ns = [] → Q V.non H) ∧ ∀ (m : Int), m ∈ ns → (∀ (y : Int), y ∈ ns → m ≤ y) → Q (V.int m) H := fun G cs SG hcs hcl h1 h2 => by
        refine ⟨⟨_, hcs⟩, fun D hD => ?_⟩
        refine LcR.by (walk_list (xs := cs.map optV)) (fun i H' => Same G H' ∧ H' D = some (.lst ((fmO (cs.take i)).map V.int))) ⟨same_upd hD, upd_same⟩ (fun _ _ _ h => h.1.seq hcs) (fun i v K0 K1 hi hI yy => ?_) (fun G2 hI => ?_)
        · obtain ⟨rfl, hv⟩ := yy
          obtain ⟨S1, e1⟩ := hI
          rw [List.getElem?_map] at hv
          obtain ⟨o, ho, rfl⟩ := Option.map_eq_some_iff.mp hv
          have et : cs.take (i + 1) = cs.take i ++ [o] := by rw [List.take_add_one, ho]; rfl
          walk_at "wp"
          cases o with
          | none =>
            rw [if_neg (show ¬ (!decide (optV none = V.non)) = true by decide)]
            refine ⟨S1, ?_⟩
            rw [et, fmO_snoc]
            simp only [Option.toList, List.append_nil]
            exact e1
          | some z =>
            rw [if_pos (show (!decide (optV (some z) = V.non)) = true by rw [decide_eq_false (fun h => nomatch h)]; rfl)]
            have hl1 := fmO_len (cs.take i)
            rw [List.length_take] at hl1
            refine ⟨_, e1, by rw [List.length_map]; exact Nat.lt_of_le_of_lt (show _ ≤ 200 by omega) (by decide), same_mut S1 hD, ?_⟩
            rw [upd_same, et, fmO_snoc, List.map_append]
            rfl
        · obtain ⟨S1, e1⟩ := hI
          have el : (cs.map optV).length = cs.length := List.length_map _
          rw [el, List.take_length] at e1
          have hm : ∀ z, z ∈ fmO cs ↔ some z ∈ cs := fun z => by
            unfold fmO
            simp [List.mem_filterMap]
          refine ⟨fmO cs, SqL.of e1, fun hz => ?_, fun m hm1 hm2 => ?_⟩
          · refine q _ none (SG.trans S1) ⟨fun v hv => ?_, fun w hw => nomatch hw⟩
            obtain ⟨w, hw, _⟩ := h1 v hv
            have := (hm w).mpr hw
            rw [hz] at this
            cases this
          · refine q _ (some m) (SG.trans S1) ⟨fun v hv => ?_, fun w hw => ?_⟩
            · obtain ⟨w, hw, hle⟩ := h1 v hv
              have := hm2 w ((hm w).mpr hw)
              exact ⟨m, rfl, by omega⟩
            · rw [← Option.some.inj hw]
              exact h2 m ((hm m).mp hm1)
      have base1 : ∀ w, some w ∈ os → ChD ds g lights g.days.length (fun _ => rowF rs) e d w := fun w hw => by
        rw [hos] at hw
        obtain ⟨i, hi, hv⟩ := List.mem_map.mp hw
        exact lbo_next (List.mem_range.mp hi) hv
      have base2 : ∀ b f s, e ≤ b → b < g.days.length → f ≤ d → segP (wantD ds g e b) f (d + 1 - f) = some s → ∃ w, some w ∈ os ∧ w ≤ rowF rs f + lights b + s := fun b f s h1 h2 h3 h4 => by
        obtain ⟨v, e1, e2⟩ := lbo_least (row := rowF rs) (d + 1) (lights b) none f s (by omega) h4
        refine ⟨v, ?_, e2⟩
        rw [hos]
        exact List.mem_map.mpr ⟨b - e, List.mem_range.mpr (by omega), by rw [show e + (b - e) = b by omega]; exact e1⟩
      by_cases hw : wantN g d = 0
      · rw [if_pos (decide_eq_true hw)]
        refine ⟨tyL (SqL.of hH1), _, _, S1.seq hra, atI_last (m := d) (v := .int (rowF rs d)) (by rw [List.length_map, hrl]) (by rw [List.getElem?_map, rowF_at (by omega)]; rfl), _, hH1, by rw [List.length_map, hosl]; exact Nat.lt_of_le_of_lt (show _ ≤ 200 by omega) (by decide), ?_⟩
        refine rest _ (os ++ [some (rowF rs d)]) (same_mut S1 hD1) (SqL.of (by rw [upd_same, List.map_append]; rfl)) (by rw [List.length_append, hosl]; show _ + 1 ≤ 200; omega) (fun v hv => ?_) (fun w hw2 => ?_)
        · rcases hv with ⟨b, f, s, h1, h2, h3, h4, h5⟩ | ⟨h1, h2⟩
          · have h5 : v = rowF rs f + lights b + s := h5
            obtain ⟨w, hw1, hw2⟩ := base2 b f s h1 h2 h3 h4
            exact ⟨w, List.mem_append_left _ hw1, by omega⟩
          · exact ⟨rowF rs d, List.mem_append_right _ (List.mem_singleton.mpr rfl), by rw [h2]; exact Int.le_refl _⟩
        · rcases List.mem_append.mp hw2 with h1 | h1
          · exact base1 w h1
          · have := Option.some.inj (List.mem_singleton.mp h1)
            exact .inr ⟨hw, this⟩
      · rw [if_neg (by rw [decide_eq_false hw]; decide)]
        refine rest _ os S1 (SqL.of hH1) (by omega) (fun v hv => ?_) base1
        rcases hv with ⟨b, f, s, h1, h2, h3, h4, h5⟩ | ⟨h1, h2⟩
        · have h5 : v = rowF rs f + lights b + s := h5
          obtain ⟨w, hw1, hw2⟩ := base2 b f s h1 h2 h3 h4
          exact ⟨w, hw1, by omega⟩
        · exact absurd h1 hw
end
end Bk

namespace Bk
open PySem PySem.Spec PyProof.Rows L2
local macro_rules | `(tactic| walk_at "wp") => `(tactic| try simp only [rMinN_r, tCKw, iZip3_eq, rZip3_r, iRng3_eq, rRng3_i, rNeN_r, tAugS, rIsDX_list, tScT2, rSetL_r, rSetOf2_r, rSorDT_r, rSetD, tDGet2, tDGet, tDNewT, cxW, rExtend_r, rSortU_r, rSetOf_r, rSortedSet_r, rNinr_r, rNeN_r, rCatL_r, rSlT_r, rListOf_r, rIsB_b, rNotB_b, tFmtO, tJs, tOst, tCallS, WE, tRaise2, rOne_i, rSorD_r, tDNewK, Int.zero_add, tNever, tFor_eq, tLc_eq, iList, iTup, iRng1_eq, rRng1_i, iRng2_eq, rRng2_i, iEnum_eq, rEnum_r, iZip_eq, rZip_r, tSl, tPart, tNoPart, rSlL_r, rCat_r, rIn_r, rNin_r, rRepr_r, iRevR, rMin_r, rShr_i, rOdd_i, rSetL_r, gSub, rRg1_i, rRg2_i, rInr_r, tAug, ipI_ii, tLstRg, tRg1, tRg2, gTup_r, gUnl_r, rInt1_b, rInt1_i, rRep_r, tStep_r, scal, tSeq, tNext, tAsg, tRet, tRetN, tIfS, tDrop, tCB, tCons, tNil, tVar, tOp, tUn, tC, rU_i, rI_ii, rI0_ii, rEq, rNe, tTest, tB, tAnd, tOr, tNot, tAndV, tOrV, tNotV, tIf, tChain, tLst, tTup, tBM, tBM0, rAppend_r, rIxL_r, rIxT_r, rMx_ii, rMn_ii, rLnL_r, rLnT_r, rIsD_int, rIsD_bool, rIsD_list, rIsD_tuple, tCall, gName, gNil_n, gCons_c, cxK, L2.start, List.map, List.replicate, List.length_cons, List.length_nil, List.cons_append, List.nil_append, List.append_nil, List.getElem?_cons_zero, List.getElem?_cons_succ, Option.some.injEq, exists_eq_left', exists_eq_left, V.int.injEq, V.bl.injEq, V.str.injEq, V.ref.injEq, List.cons.injEq, and_true, true_and, and_self, List.set, wipe, rAll_r, rSum_r, reduceCtorEq, decide_true, decide_false, reduceIte, ite_true, ite_false, if_true, if_false, Bool.false_eq_true, Bool.not_true, Bool.not_false])
local macro_rules | `(tactic| walk_at "shaped") => `(tactic| (simp only [rMinN_r, tCKw, iZip3_eq, rZip3_r, iRng3_eq, rRng3_i, rNeN_r, tAugS, rIsDX_list, SeqAt.shaped, PyData.canLay0, PyData.canLayAll0, PyData.depth, PyData.depthAll]; rfl))
local macro_rules | `(tactic| walk_at "lay") => `(tactic| (simp only [rMinN_r, tCKw, iZip3_eq, rZip3_r, iRng3_eq, rRng3_i, rNeN_r, tAugS, rIsDX_list, PyData.canLay0, PyData.canLayAll0]; rfl))
local macro_rules | `(tactic| walk_at "wg") => `(tactic| try simp only [gName, gTup_r, gCons_c, gNil_n, cxK, List.set, List.cons.injEq, and_true, true_and, exists_eq_left', exists_eq_left, List.length_cons, List.length_nil])
section
variable {P : Program} {w : World} {K : PySem.W.Frag} {mg : Str → Option Value} {base : Heap}
abbrev s_built : Stmt := top 63
theorem sc_built : FnScope ["bakery", "doughs", "tables", "lights", "bound", "goods", "free", "mixed", "day", "unwanted", "nexts", "known", "rungs", "mix", "dough", "hold", "cost", "afresh", "each"] ["bakery", "doughs", "tables"] (defScope s_built) := ⟨rfl, rfl, rfl, by decide +kernel, rfl, by decide +kernel, by decide +kernel⟩
/-- a ladder in the heap -/
structure LadH (H : Hp) (v : V) (n : Nat) (Fl : List Int) (Ml : Nat → List Int) : Prop where
  ex : ∃ (t fr mx : Addr) (ra : Nat → Addr), v = .ref t ∧ H t = some (.tup [.ref fr, .ref mx]) ∧ H fr = some (.lst (Fl.map V.int)) ∧ H mx = some (.lst ((List.range n).map fun e => V.ref (ra e))) ∧ ∀ e, e < n → H (ra e) = some (.lst ((Ml e).map V.int))
/-- a ladder in the heap, its lists apart -/
structure LadD (H : Hp) (v : V) (n : Nat) (Fl : List Int) (Ml : Nat → List Int) : Prop where
  ex : ∃ (t fr mx : Addr) (ra : Nat → Addr), v = .ref t ∧ H t = some (.tup [.ref fr, .ref mx]) ∧ H fr = some (.lst (Fl.map V.int)) ∧ H mx = some (.lst ((List.range n).map fun e => V.ref (ra e))) ∧ (∀ e, e < n → H (ra e) = some (.lst ((Ml e).map V.int))) ∧ (∀ e e', e < n → e' < n → ra e = ra e' → e = e') ∧ ∀ e, e < n → ra e ≠ fr
theorem LadD.lad {H : Hp} {v : V} {n : Nat} {Fl : List Int} {Ml : Nat → List Int} (h : LadD H v n Fl Ml) : LadH H v n Fl Ml := by
  obtain ⟨t, fr, mx, ra, h0, h1, h2, h3, h4, _⟩ := h.ex
  exact ⟨t, fr, mx, ra, h0, h1, h2, h3, h4⟩
theorem LadD.same {H H' : Hp} {v : V} {n : Nat} {Fl : List Int} {Ml : Nat → List Int} (h : LadD H v n Fl Ml) (s : Same H H') : LadD H' v n Fl Ml := by
  obtain ⟨t, fr, mx, ra, h0, h1, h2, h3, h4, h5⟩ := h.ex
  exact ⟨t, fr, mx, ra, h0, s _ _ h1, s _ _ h2, s _ _ h3, fun e he => s _ _ (h4 e he), h5⟩
/-- what is asked of a table of days of mixing -/
def Tabs (ds : List Dgh) (g : Good) (n : Nat) (H : Hp) (ta : Addr) : Prop := ∃ tabs : List V, H ta = some (.lst tabs) ∧ tabs.length = n ∧ ∀ e, e < n → ∃ q acc, tabs[e]? = some (.ref q) ∧ H q = some (.lst acc) ∧ DTab ds g e H acc
theorem DTab.same {ds : List Dgh} {g : Good} {e : Nat} {H H' : Hp} {acc : List V} (h : DTab ds g e H acc) (s : Same H H') : DTab ds g e H' acc :=
  ⟨h.1, fun i hi => by obtain ⟨q, h1, h2⟩ := h.2 i hi; exact ⟨q, h1, s _ _ h2⟩⟩
theorem Tabs.same {ds : List Dgh} {g : Good} {n : Nat} {H H' : Hp} {ta : Addr} (h : Tabs ds g n H ta) (s : Same H H') : Tabs ds g n H' ta := by
  obtain ⟨tabs, h1, h2, h3⟩ := h
  refine ⟨tabs, s _ _ h1, h2, fun e he => ?_⟩
  obtain ⟨q, acc, a1, a2, a3⟩ := h3 e he
  exact ⟨q, acc, a1, s _ _ a2, a3.same s⟩
def spBuilt (K : PySem.W.Frag) : Sp := fun vs H Q _ => ∃ (x y : V) (ta : Addr) (ls : List Int) (g : Good) (ds : List Dgh), vs = [x, y, .ref ta] ∧ Th K H x (bakD ⟨ls, none, [g]⟩) ∧ bakB (bakD ⟨ls, none, [g]⟩) = true ∧ Th K H y (doughsD ds) ∧ ds.length = ls.length ∧ Tabs ds g ls.length H ta ∧
  ∀ (H' : Hp) (v : V) (Fl : List Int) (Ml : Nat → List Int), Same H H' → LadD (newOf H H') v ls.length Fl Ml → Fl.length = ls.length + 1 → (∀ e, e < ls.length → (Ml e).length = ls.length + 1) → Bld ds g (rowF ls) ls.length (rowF Fl) (fun e => rowF (Ml e)) ls.length → Q v H'
def nextW (ds : List Dgh) (os : List (Option Int)) (u : Int) (e : Nat) : Int := match os.getD e none with
  | none => u + mixF ds e
  | some z => if u + mixF ds e < z then u + mixF ds e else z
theorem zip_rungs {κ : Ends} {n i : Nat} {mx yp D fr : Addr} {ra : Nat → Addr} {xs : List V} {ds : List Dgh} {os : List (Option Int)} {Fl : List Int} {u : Int} {Ml : Nat → List Int} {S : List Addr} {v0 v1 v2 v3 v4 v5 v7 v8 v9 v10 v11 y12 y13 y14 y15 y16 y17 y18 : Option V} {H : Hp} (hn : n ≤ 100) (hi : i < n)
    (mfr : fr ∈ S) (mra : ∀ e, e < n → ra e ∈ S) (hraI : ∀ e e', e < n → e' < n → ra e = ra e' → e = e') (nfr : ∀ e, e < n → ra e ≠ fr) (emx : but S H mx = some (.lst ((List.range n).map fun e => V.ref (ra e)))) (hys : SqL K (but S H) yp xs) (hya : ThAll K (but S H) xs (ds.map dghD)) (hdl : ds.length = n) (eD : but S H D = some (.lst (os.map optV))) (hol : os.length = n)
    (ef : H fr = some (.lst ((Fl ++ [u]).map V.int))) (hfl : Fl.length = i + 1) (hM : ∀ e, e < n → H (ra e) = some (.lst ((Ml e).map V.int)) ∧ (Ml e).length = i + 1)
    (q : ∀ (y12 y13 y14 y15 y16 y17 : Option V) (G : Hp), Same (but S H) (but S G) → G fr = some (.lst ((Fl ++ [u]).map V.int)) → (∀ e, e < n → G (ra e) = some (.lst ((Ml e ++ [nextW ds os u e]).map V.int))) → κ.nx [v0, v1, v2, v3, v4, v5, some (.ref fr), v7, v8, v9, v10, v11, y12, y13, y14, y15, y16, y17, y18] G) :
    LoopR (Itz3 K mx yp D) (gTup K 3 (gCons (gName 12) (gCons (gTup K 3 (gCons (gName 13) (gCons (gName 14) (gCons (gName 15) gNil)))) (gCons (gName 16) gNil))))
      (tSeq (tAsg (tOp (rI0 fun i j => V.int (i + j)) (tOp (rIxL K) (tVar 6) (tUn (rU fun i => V.int (-i)) (tC (V.int 1)))) (tVar 13)) (gName 17))
        (tDrop (tBM K "list" rAppend (tVar 12) (tCons (tIf (tTest (tOp (fun x y H Q => y = V.non ∧ Q (V.bl (decide (x = V.non))) H) (tVar 16) (tC V.non))) (tVar 17) (tCB rMn (tCons (tVar 16) (tCons (tVar 17) tNil)))) tNil))))
      κ [v0, v1, v2, v3, v4, v5, some (.ref fr), v7, v8, v9, v10, v11, y12, y13, y14, y15, y16, y17, y18] H := by
  have hxs := hya.length
  rw [List.length_map] at hxs
  refine LoopR.by (walk_zip3 (n := n) (l1 := (List.range n).map fun e => V.ref (ra e)) (l2 := xs) (l3 := os.map optV) (by rw [List.length_map, List.length_range]) (by omega) (by rw [List.length_map, hol])) (fun k σ G => ∃ (y12 y13 y14 y15 y16 y17 : Option V), σ = [v0, v1, v2, v3, v4, v5, some (.ref fr), v7, v8, v9, v10, v11, y12, y13, y14, y15, y16, y17, y18] ∧ Same (but S H) (but S G) ∧ G fr = some (.lst ((Fl ++ [u]).map V.int)) ∧ ∀ e, e < n → G (ra e) = some (.lst ((Ml e ++ if e < k then [nextW ds os u e] else []).map V.int)))
    ⟨y12, y13, y14, y15, y16, y17, rfl, Same.refl _, ef, fun e he => by rw [if_neg (by omega), List.append_nil]; exact (hM e he).1⟩ (fun k σ G _ hI => ?_) (fun k v σ K0 K1 hk hI yy => ?_) (fun σ G hI => ?_)
  · obtain ⟨_, _, _, _, _, _, _, SG, _, _⟩ := hI
    have s := SG.trans (but_same S G)
    exact ⟨SqL.of (s _ _ emx), s.seq hys, SqL.of (s _ _ eD)⟩
  · obtain ⟨y12, y13, y14, y15, y16, y17, rfl, SG, ef, hG⟩ := hI
    obtain ⟨T, z1, z2, z3, rfl, hT, rfl, e1, e2, e3⟩ := yy
    have e1 : ((List.range n).map fun e => V.ref (ra e))[k]? = some z1 := e1
    have e2 : xs[k]? = some z2 := e2
    have e3 : (os.map optV)[k]? = some z3 := e3
    rw [List.getElem?_map, List.getElem?_range hk] at e1
    cases e1
    have hk' : k < ds.length := by omega
    obtain ⟨v', hv', hvd⟩ := hya.get' (i := k) (d := dghD ds[k]) (by rw [List.getElem?_map, List.getElem?_eq_getElem hk']; rfl)
    rw [hv'] at e2
    cases e2
    obtain ⟨td, rfl, htd⟩ := hvd.dgh
    have hok : os[k]? = some os[k] := List.getElem?_eq_getElem (by omega)
    have emi : mixF ds k = ds[k].mix := by
      unfold mixF
      rw [dghAt_of (List.getElem?_eq_getElem hk')]
    have enw : nextW ds os u k = match os[k] with | none => u + mixF ds k | some z => if u + mixF ds k < z then u + mixF ds k else z := by
      unfold nextW
      rw [List.getD_eq_getElem?_getD, hok]
      rfl
    rw [List.getElem?_map, hok] at e3
    cases e3
    rw [emi] at enw
    generalize ds[k].mix = mi at htd enw
    generalize ds[k].dough = dd at htd
    generalize ds[k].hold = hh at htd
    have SY := same_upd (o := .tup [V.ref (ra k), V.ref td, optV os[k]]) hT
    have eT : upd K0 T (.tup [V.ref (ra k), V.ref td, optV os[k]]) T = some (.tup [V.ref (ra k), V.ref td, optV os[k]]) := upd_same
    generalize upd K0 T (.tup [V.ref (ra k), V.ref td, optV os[k]]) = K1 at SY eT ⊢
    have SG1 := SG.trans (but_mono SY)
    have SH := SG1.trans (but_same _ _)
    have ef1 := SY _ _ ef
    have hG1 : ∀ e, e < n → K1 (ra e) = some (.lst ((Ml e ++ if e < k then [nextW ds os u e] else []).map V.int)) := fun e he => SY _ _ (hG e he)
    have hk1 := hG1 k hk
    rw [if_neg (Nat.lt_irrefl k), List.append_nil] at hk1
    have hMk := (hM k hk).2
    have fin : Same (but S H) (but S (upd K1 (ra k) (.lst ((Ml k).map V.int ++ [V.int (nextW ds os u k)])))) ∧ upd K1 (ra k) (.lst ((Ml k).map V.int ++ [V.int (nextW ds os u k)])) fr = some (.lst ((Fl ++ [u]).map V.int)) ∧ ∀ e, e < n → upd K1 (ra k) (.lst ((Ml k).map V.int ++ [V.int (nextW ds os u k)])) (ra e) = some (.lst ((Ml e ++ if e < k + 1 then [nextW ds os u e] else []).map V.int)) := by
      refine ⟨?_, ?_, fun e he => ?_⟩
      · rw [but_upd (mra k hk)]
        exact SG1
      · rw [upd_ne (nfr k hk).symm]
        exact ef1
      · by_cases hek : e = k
        · subst hek
          rw [upd_same, if_pos (Nat.lt_succ_self e), List.map_append]
          rfl
        · rw [upd_ne (fun z => hek (hraI e k he hk z)), hG1 e he]
          congr 4
          by_cases h : e < k
          · rw [if_pos h, if_pos (by omega)]
          · rw [if_neg h, if_neg (by omega)]
    rw [gTup_r]
    refine ⟨_, SqT.of eT, rfl, ?_⟩
    rw [gCons_c]
    walk_at "wp"
    refine ⟨_, Same.tup SH htd, rfl, ?_⟩
    walk_at "wp"
    refine ⟨_, _, SqL.of ef1, atI_last (m := i + 1) (v := .int u) (by rw [List.length_map, List.length_append, hfl]; rfl) (by rw [List.getElem?_map, List.getElem?_append_right (by omega), hfl, Nat.sub_self]; rfl), ?_⟩
    walk_at "wp"
    refine ⟨tyL (SqL.of hk1), ?_⟩
    cases ho : os[k] with
    | none =>
      rw [ho] at enw
      have enw : nextW ds os u k = u + mi := enw
      rw [if_pos (show decide (optV none = V.non) = true from rfl)]
      refine ⟨_, hk1, sz100l (by rw [List.length_map]; omega), ?_⟩
      rw [← enw]
      exact ⟨_, _, _, _, _, _, ⟨rfl, rfl, rfl, rfl, rfl, rfl⟩, fin⟩
    | some z =>
      rw [ho] at enw
      have enw : nextW ds os u k = if u + mi < z then u + mi else z := enw
      rw [if_neg (show ¬ decide (optV (some z) = V.non) = true by rw [decide_eq_false (fun h => nomatch h)]; decide)]
      simp only [optV]
      walk_at "wp"
      refine ⟨_, hk1, sz100l (by rw [List.length_map]; omega), ?_⟩
      rw [← enw]
      exact ⟨_, _, _, _, _, _, ⟨rfl, rfl, rfl, rfl, rfl, rfl⟩, fin⟩
  · obtain ⟨y12, y13, y14, y15, y16, y17, rfl, SG, ef, hG⟩ := hI
    refine q _ _ _ _ _ _ _ SG ef fun e he => ?_
    have := hG e he
    rw [if_pos he] at this
    exact this
theorem ok_built {f : Addr} {fd : FuncData} (F : Fun K "built" "built" s_built f fd) (B : Bi mg) (Bz : mg "zip" = none) (D_is_unwanted : Def P w K mg base "is_unwanted" 1 ["good", "day"] (spUnw K)) (D_least_mixed : Def P w K mg base "least_mixed" 2 ["rungs", "lights", "table", "unwanted"] (spLeastM K)) : FnOk P w K mg base CX0 3 f fd ["bakery", "doughs", "tables"] (spBuilt K) := by
  refine F.ok sc_built (fun vs H Q E h => ?_) (fun cdv A outer s H vs Q E hr h => ?_)
  · obtain ⟨_, _, _, _, _, _, rfl, _⟩ := h
    rfl
  · obtain ⟨x, y, ta, ls, g, ds, rfl, hx, hb, hy, hdl, hta, q⟩ := h
    refine ⟨_, (pss_cons (ps_asg (pv 0) (pg_tup rfl (pgs_cons (pg_name (i := 3) sc_built.nd rfl (Or.inr rfl)) (pgs_cons (pg_name (i := 4) sc_built.nd rfl (Or.inl rfl)) (pgs_cons (pg_name (i := 5) sc_built.nd rfl (Or.inl rfl)) pgs_nil)))))
 (pss_cons (ps_set (i := 6) sc_built.nd rfl (Or.inl rfl) (pe_lst (pa_cons pe_int pa_nil)))
 (pss_cons (ps_set (i := 7) sc_built.nd rfl (Or.inr rfl) (pe_lc (own := [("mix", 13), ("dough", 14), ("hold", 15)]) (g := (gTup K 3 (gCons (gName 13) (gCons (gName 14) (gCons (gName 15) gNil))))) rfl sc_built.nd (pi_list (pv 1)) (blkOk_by (own := [("mix", 13), ("dough", 14), ("hold", 15)]) (N := ["bakery", "doughs", "tables", "lights", "bound", "goods", "free", "mixed", "day", "unwanted", "nexts", "known", "rungs", "mix", "dough", "hold", "cost", "afresh", "each"]) (sc := defScope s_built) (by decide +kernel)) (fun _ _ _ _ _ => (pg_tup rfl (pgs_cons (pg_name (i := 13) sc_built.nd rfl (Or.inl rfl)) (pgs_cons (pg_name (i := 14) sc_built.nd rfl (Or.inl rfl)) (pgs_cons (pg_name (i := 15) sc_built.nd rfl (Or.inl rfl)) pgs_nil))))) (fun _ _ _ _ _ => pts_nil) (fun _ _ _ _ _ => (pe_lst (pa_cons (pv 13) pa_nil)))))
 (pss_cons (ps_for PassesOwn.never rfl (pi_range1 (by rfl) B.range (pa_cons (pe_callB call_lnL (by rfl) B.len (by decide +kernel) (pa_cons (pv 3) pa_nil)) pa_nil)) (pg_name (i := 8) sc_built.nd rfl (Or.inl rfl)) (pss_cons (ps_set (i := 9) sc_built.nd rfl (Or.inr rfl) (pe_callD D_is_unwanted hr (by rfl) (pa_cons (pe_ix ix_list (pv 5) pe_int (fun _ _ => rfl)) (pa_cons (pv 8) pa_nil))))
 (pss_cons (ps_setLc (i := 10) (own := [("each", 18)]) (g := (gName 18)) (te := (tCall _ _ _ (tCons (tOp (rIxL K) _ _) (tCons (tSl (rSlL K) _ _ _) (tCons (tOp (rIxL K) _ _) (tCons _ tNil)))))) rfl sc_built.nd rfl rfl (sw_true rfl rfl rfl (by decide +kernel)) (pi_range1 (by rfl) B.range (pa_cons (pe_callB call_lnL (by rfl) B.len (by decide +kernel) (pa_cons (pv 3) pa_nil)) pa_nil)) (blkOk_by (own := [("each", 18)]) (N := ["bakery", "doughs", "tables", "lights", "bound", "goods", "free", "mixed", "day", "unwanted", "nexts", "known", "rungs", "mix", "dough", "hold", "cost", "afresh", "each"]) (sc := defScope s_built) (by decide +kernel)) (fun _ _ _ _ _ => (pg_name (i := 18) sc_built.nd rfl (Or.inl rfl))) (fun _ _ _ _ _ => pts_nil) (fun _ _ _ _ _ => (pe_callD D_least_mixed hr (by rfl) (pa_cons (pe_ix ix_list (pv 7) (pv 18) (fun _ _ => rfl)) (pa_cons (pe_slice sl_list (pv 3) (po_some (pv 18)) po_none) (pa_cons (pe_ix ix_list (pv 2) (pv 18) (fun _ _ => rfl)) (pa_cons (pv 9) pa_nil)))))))
 (pss_cons (ps_setLc (i := 11) (own := [("cost", 16)]) (g := (gName 16)) rfl sc_built.nd rfl rfl (sw_true rfl rfl rfl (by decide +kernel)) (pi_list (pv 10)) (blkOk_by (own := [("cost", 16)]) (N := ["bakery", "doughs", "tables", "lights", "bound", "goods", "free", "mixed", "day", "unwanted", "nexts", "known", "rungs", "mix", "dough", "hold", "cost", "afresh", "each"]) (sc := defScope s_built) (by decide +kernel)) (fun _ _ _ _ _ => (pg_name (i := 16) sc_built.nd rfl (Or.inl rfl))) (fun _ _ _ _ _ => (pts_one (pt_cmpR op_notN (pv 16) pe_non (nomark _)))) (fun _ _ _ _ _ => (pv 16)))
 (pss_cons (ps_expr (pe_bm PySem.F.plainAttrs_list PySem.F.slot_list_append PySem.F.type_list_append mt_append (pv 6) (pa_cons (pe_callB (cr_min rfl) (by rfl) B.min (by decide +kernel) (pa_cons (pe_ifExp (pt_val (pv 9)) (pe_op op_catL (pv 11) (pe_lst (pa_cons (pe_ix ix_list (pv 6) (pe_un un_neg pe_int) (fun _ _ => rfl)) pa_nil))) (pv 11)) pa_nil)) pa_nil)))
 (pss_one (ps_for PassesOwn.never rfl (pi_zip3 (by rfl) Bz (pa_cons (pv 7) (pa_cons (pv 1) (pa_cons (pv 10) pa_nil)))) (pg_tup rfl (pgs_cons (pg_name (i := 12) sc_built.nd rfl (Or.inl rfl)) (pgs_cons (pg_tup rfl (pgs_cons (pg_name (i := 13) sc_built.nd rfl (Or.inl rfl)) (pgs_cons (pg_name (i := 14) sc_built.nd rfl (Or.inl rfl)) (pgs_cons (pg_name (i := 15) sc_built.nd rfl (Or.inl rfl)) pgs_nil)))) (pgs_cons (pg_name (i := 16) sc_built.nd rfl (Or.inl rfl)) pgs_nil)))) (pss_cons (ps_set (i := 17) sc_built.nd rfl (Or.inl rfl) (pe_op op_add (pe_ix ix_list (pv 6) (pe_un un_neg pe_int) (fun _ _ => rfl)) (pv 13)))
 (pss_one (ps_expr (pe_bm PySem.F.plainAttrs_list PySem.F.slot_list_append PySem.F.type_list_append mt_append (pv 12) (pa_cons (pe_ifExp (pt_cmpR op_isN (pv 16) pe_non (nomark _)) (pv 17) (pe_callB (call_mn rfl) (by rfl) B.min (by decide +kernel) (pa_cons (pv 16) (pa_cons (pv 17) pa_nil)))) pa_nil))))))))))))
 (pss_one (ps_ret (pe_tup (pa_cons (pv 6) (pa_cons (pv 7) pa_nil))))))))), ?_⟩
    obtain ⟨⟨c1, c2⟩, c3, _, _, c7⟩ := bak_parts hb
    obtain ⟨c8, c9, hok⟩ := c7 g (List.mem_singleton.mpr rfl)
    dsimp only at c1 c2 c3 c8
    obtain ⟨a, l, v2, ga, xl, xg, rfl, ht, hl, hla, h2, hgl, hga⟩ := Th.bak hx
    obtain ⟨vg, hv, hvg⟩ := hga.get' (i := 0) (d := goodD g) rfl
    obtain rfl : xl = ls.map V.int := hla.intsV
    obtain ⟨yp, xs, rfl, hys, hya⟩ := Th.doughs hy
    have hxs := hya.length
    rw [List.length_map] at hxs
    walk_at "wp"
    refine ⟨_, ht, rfl, ?_⟩
    walk_at "wp"
    refine ⟨sz100 (by decide), fun fr hfr => ?_⟩
    obtain ⟨H1, e1, S1, E1⟩ := alloc (.lst [V.int 0]) hfr
    rw [e1]
    refine ⟨⟨_, S1.seq hys⟩, fun mx hmx => ?_⟩
    refine LcR.by (walk_list (xs := xs)) (fun i H' => Same H1 H' ∧ ∃ ras : List Addr, H' mx = some (.lst (ras.map V.ref)) ∧ ras.length = i ∧ ras.Nodup ∧ (∀ r ∈ ras, H1 r = none ∧ r ≠ mx) ∧ ∀ j r, ras[j]? = some r → H' r = some (.lst [V.int (mixF ds j)])) ⟨same_upd hmx, [], upd_same, rfl, List.nodup_nil, (fun r hr => absurd hr List.not_mem_nil), fun j r hr => nomatch hr⟩ (fun _ _ _ h => h.1.seq (S1.seq hys)) (fun i v K0 K1 hi hI yy => ?_) (fun H2 hI => ?_)
    · obtain ⟨rfl, hv1⟩ := yy
      obtain ⟨SI, ras, er, hrl, hnd, hnew, hcell⟩ := hI
      have hi' : i < ds.length := by omega
      obtain ⟨v', hv', hvd⟩ := hya.get' (i := i) (d := dghD ds[i]) (by rw [List.getElem?_map, List.getElem?_eq_getElem hi']; rfl)
      rw [hv'] at hv1
      cases hv1
      obtain ⟨td, rfl, htd⟩ := hvd.dgh
      have emi : mixF ds i = ds[i].mix := by
        unfold mixF
        rw [dghAt_of (List.getElem?_eq_getElem hi')]
      walk_at "wp"
      refine ⟨_, Same.tup (S1.trans SI) htd, rfl, ?_⟩
      walk_at "wp"
      refine ⟨sz100 (by decide), fun r hr => ?_⟩
      have nr : r ≠ mx := fun z => by rw [z, er] at hr; cases hr
      refine ⟨ras.map V.ref, by rw [upd_ne nr.symm]; exact er, sz100l (by rw [List.length_map]; omega), same_mut (SI.trans (same_upd hr)) hmx, ras ++ [r], by rw [upd_same, List.map_append]; rfl, by rw [List.length_append, hrl]; rfl, ?_, fun r' hr' => ?_, fun j r' hj => ?_⟩
      · refine List.nodup_append.mpr ⟨hnd, List.nodup_cons.mpr ⟨List.not_mem_nil, List.nodup_nil⟩, fun u hu u' hu' => ?_⟩
        rw [List.mem_singleton.mp hu']
        intro z
        obtain ⟨j, hj1, hj⟩ := List.mem_iff_getElem.mp hu
        have := hcell j u (by rw [List.getElem?_eq_getElem hj1, hj])
        rw [z, hr] at this
        cases this
      · rcases List.mem_append.mp hr' with z | z
        · exact hnew r' z
        · rw [List.mem_singleton.mp z]
          exact ⟨SI.free hr, nr⟩
      · by_cases hji : j < ras.length
        · rw [List.getElem?_append_left hji] at hj
          have a1 := hcell j r' hj
          have n1 := (hnew r' (List.mem_of_getElem? hj)).2
          rw [upd_ne n1, upd_ne (fun z => by rw [z, hr] at a1; cases a1)]
          exact a1
        · have hjl := (List.getElem?_eq_some_iff.mp hj).1
          rw [List.length_append, List.length_singleton] at hjl
          have ej : j = i := by omega
          subst ej
          rw [List.getElem?_append_right (by omega), hrl, Nat.sub_self] at hj
          cases hj
          rw [upd_ne nr, upd_same, emi]
    · obtain ⟨SI, ras, er, hrl, hnd, hnew, hcell⟩ := hI
      have hrn : ras.length = ls.length := by omega
      have hraM : ∀ e, e < ls.length → ras.getD e 0 ∈ ras ∧ ras[e]? = some (ras.getD e 0) := fun e he => by
        have h1 : ras[e]? = some (ras.getD e 0) := by rw [List.getD_eq_getElem?_getD, List.getElem?_eq_getElem (show e < ras.length by omega)]; rfl
        exact ⟨List.mem_of_getElem? h1, h1⟩
      obtain ⟨ra, hraI, er, hra0⟩ : ∃ ra : Nat → Addr, (∀ e e', e < ls.length → e' < ls.length → ra e = ra e' → e = e') ∧ H2 mx = some (.lst ((List.range ls.length).map fun e => V.ref (ra e))) ∧ ∀ e, e < ls.length → H1 (ra e) = none ∧ ra e ≠ mx ∧ H2 (ra e) = some (.lst [V.int (mixF ds e)]) := by
        refine ⟨fun e => ras.getD e 0, fun e e' he he' h => ?_, ?_, fun e he => ⟨(hnew _ (hraM e he).1).1, (hnew _ (hraM e he).1).2, hcell e _ (hraM e he).2⟩⟩
        · have h1 := (hraM e he).2
          have h2 := (hraM e' he').2
          have h : ras.getD e 0 = ras.getD e' 0 := h
          rw [← h] at h2
          exact (List.getElem?_inj (show e < ras.length by omega) hnd).mp (h1.trans h2.symm)
        · rw [er]
          congr 2
          refine List.ext_getElem? fun j => ?_
          rw [List.getElem?_map, List.getElem?_map]
          by_cases hj : j < ls.length
          · rw [(hraM j hj).2, List.getElem?_range hj]; rfl
          · rw [List.getElem?_eq_none (by omega), List.getElem?_eq_none (by rw [List.length_range]; omega)]; rfl
      clear hcell hnew hraM hnd hrn hrl
      have S02 : Same H H2 := S1.trans SI
      have efr := SI _ _ E1
      obtain ⟨S, hS⟩ : ∃ S : List Addr, S = fr :: (List.range ls.length).map ra := ⟨_, rfl⟩
      have mfr : fr ∈ S := by rw [hS]; exact List.mem_cons_self ..
      have mra : ∀ e, e < ls.length → ra e ∈ S := fun e he => by rw [hS]; exact List.mem_cons_of_mem _ (List.mem_map.mpr ⟨e, List.mem_range.mpr he, rfl⟩)
      have nin : ∀ b, b ∈ S → H b = none ∧ b ≠ mx := fun b hb => by
        rw [hS] at hb
        rcases List.mem_cons.mp hb with rfl | hb
        · exact ⟨hfr, fun z => by rw [z, hmx] at E1; cases E1⟩
        · obtain ⟨e, he, rfl⟩ := List.mem_map.mp hb
          have he := List.mem_range.mp he
          exact ⟨S1.free (hra0 e he).1, (hra0 e he).2.1⟩
      have SB : Same H (but S H2) := fun b o eb => but_at (fun z => by rw [(nin b z).1] at eb; cases eb) (S02 _ _ eb)
      have emx : but S H2 mx = some (.lst ((List.range ls.length).map fun e => V.ref (ra e))) := but_at (fun z => (nin _ z).2 rfl) er
      have nfr : ∀ e, e < ls.length → ra e ≠ fr := fun e he z => by have := (hra0 e he).1; rw [z, E1] at this; cases this
      walk_at "wp"
      refine ⟨_, S02.seq hl, ?_⟩
      rw [List.length_map]
      refine ⟨by omega, by omega, ?_⟩
      rw [show (ls.length : Int).toNat = ls.length by omega]
      refine LoopR.by walk_range (fun i σ H' => ∃ (y8 y9 y10 y11 y12 y13 y14 y15 y16 y17 y18 : Option V) (Fl : List Int) (Ml : Nat → List Int), σ = [some (.ref a), some (.ref yp), some (.ref ta), some (.ref l), some v2, some (.ref ga), some (.ref fr), some (.ref mx), y8, y9, y10, y11, y12, y13, y14, y15, y16, y17, y18] ∧ Same (but S H2) (but S H') ∧ H' fr = some (.lst (Fl.map V.int)) ∧ Fl.length = i + 1 ∧ (∀ e, e < ls.length → H' (ra e) = some (.lst ((Ml e).map V.int)) ∧ (Ml e).length = i + 1) ∧ Bld ds g (rowF ls) ls.length (rowF Fl) (fun e => rowF (Ml e)) i) ⟨none, none, none, none, none, none, none, none, none, none, none, [0], fun e => [mixF ds e], rfl, Same.refl _, efr, rfl, fun e he => ⟨(hra0 e he).2.2, rfl⟩, Bld.init rfl fun e _ => rfl⟩ (fun _ _ _ _ _ => trivial) (fun i v σ G0 G1 hi hI yy => ?_) (fun σ G hI => ?_)
      · obtain ⟨rfl, rfl⟩ := yy
        obtain ⟨y8, y9, y10, y11, y12, y13, y14, y15, y16, y17, y18, Fl, Ml, rfl, SG, ef, hfl, hMl, hB⟩ := hI
        have SGH : Same H G1 := (SB.trans SG).trans (but_same _ _)
        have hmxG := (but_is (SG _ _ emx)).2
        have hdi : g.days[i]? = some g.days[i] := List.getElem?_eq_getElem (by omega)
        have ew : wantN g i = g.days[i].want := by unfold wantN; rw [hdi]
        dsimp only
        rw [Int.zero_add]
        walk_at "wp"
        refine ⟨_, _, SGH.seq hgl, atI_nat (j := 0) hv, ?_⟩
        walk_at "wp"
        refine ⟨_, g, _, i, rfl, hvg.same SGH, hdi, ?_⟩
        walk_at "wp"
        refine ⟨_, SGH.seq hl, ?_⟩
        rw [List.length_map]
        refine ⟨by omega, by omega, fun D hD => ?_⟩
        rw [show (ls.length : Int).toNat = ls.length by omega]
        refine LcR.by walk_range (fun k H' => Same G1 H' ∧ ∃ os : List (Option Int), H' D = some (.lst (os.map optV)) ∧ os.length = k ∧ ∀ e o, os[e]? = some o → NextO ds g (rowF ls) ls.length (rowF (Ml e)) e i o) ⟨same_upd hD, [], upd_same, rfl, fun e o h => nomatch h⟩ (fun _ _ _ _ => trivial) (fun k v K0 K1 hk hI yy => ?_) (fun G2 hI => ?_)
        · obtain ⟨rfl, rfl⟩ := yy
          obtain ⟨SK, os, eD, hol, hos⟩ := hI
          dsimp only
          rw [Int.zero_add]
          walk_at "wp"
          obtain ⟨tabs, ht1, ht2, ht3⟩ := hta
          obtain ⟨qt, acc, tq1, tq2, tq3⟩ := ht3 k hk
          have SHK := SGH.trans SK
          refine ⟨_, _, SqL.of (SK _ _ hmxG), atI_nat (j := k) (by rw [List.getElem?_map, List.getElem?_range hk]; rfl), _, SHK.seq hl, fun p hp => ?_⟩
          rw [cutV_from]
          obtain ⟨K2, eK2, SP, EP⟩ := alloc (.lst ((ls.map V.int).drop k)) hp
          rw [eK2]
          have SHP := SHK.trans SP
          refine ⟨_, _, SqL.of (SHP _ _ ht1), atI_nat tq1, ?_⟩
          obtain ⟨hM1, hM2⟩ := hMl k hk
          refine ⟨ra k, p, qt, Ml k, (ls.map V.int).drop k, acc, ds, g, rowF ls, k, i, by rw [ew], SqL.of ((SK.trans SP) _ _ hM1), hM2, SqL.of EP, by rw [List.length_drop, List.length_map, c8], fun j hj => ?_, SqL.of (SHP _ _ tq2), tq3.same SHP, by omega, by omega, fun K3 o S3 hn => ?_⟩
          · rw [List.getElem?_drop, List.getElem?_map, rowF_at (by omega)]
            rfl
          · rw [c8] at hn
            refine ⟨os.map optV, (SP.trans S3) _ _ eD, sz100l (by rw [List.length_map]; omega), same_mut ((SK.trans SP).trans S3) hD, os ++ [o], by rw [upd_same, List.map_append]; rfl, by rw [List.length_append, hol]; rfl, fun e o' he => ?_⟩
            by_cases hel : e < os.length
            · rw [List.getElem?_append_left hel] at he
              exact hos e o' he
            · have hjl := (List.getElem?_eq_some_iff.mp he).1
              rw [List.length_append, List.length_singleton] at hjl
              have ej : e = k := by omega
              subst ej
              rw [List.getElem?_append_right (by omega), hol, Nat.sub_self] at he
              cases he
              exact hn
        · obtain ⟨SK, os, eD, hol, hos⟩ := hI
          refine ⟨⟨_, SqL.of eD⟩, fun D1 hD1 => ?_⟩
          refine LcR.by (walk_list (xs := os.map optV)) (fun i H' => Same G2 H' ∧ H' D1 = some (.lst ((fmO (os.take i)).map V.int))) ⟨same_upd hD1, upd_same⟩ (fun _ _ _ h => SqL.of (h.1 _ _ eD)) (fun k v K0 K1 hk hI yy => ?_) (fun G3 hI => ?_)
          · obtain ⟨rfl, hv⟩ := yy
            obtain ⟨S1', e1'⟩ := hI
            rw [List.getElem?_map] at hv
            obtain ⟨o, ho, rfl⟩ := Option.map_eq_some_iff.mp hv
            have et : os.take (k + 1) = os.take k ++ [o] := by rw [List.take_add_one, ho]; rfl
            walk_at "wp"
            cases o with
            | none =>
              rw [if_neg (show ¬ (!decide (optV none = V.non)) = true by decide)]
              refine ⟨S1', ?_⟩
              rw [et, fmO_snoc]
              simp only [Option.toList, List.append_nil]
              exact e1'
            | some z =>
              rw [if_pos (show (!decide (optV (some z) = V.non)) = true by rw [decide_eq_false (fun h => nomatch h)]; rfl)]
              have hl1 := fmO_len (os.take k)
              rw [List.length_take] at hl1
              refine ⟨_, e1', sz100l (by rw [List.length_map]; omega), same_mut S1' hD1, ?_⟩
              rw [upd_same, et, fmO_snoc, List.map_append]
              rfl
          · obtain ⟨S1', e1'⟩ := hI
            rw [List.length_map, List.take_length] at e1'
            have SG3 : Same G1 G3 := SK.trans S1'
            have ef3 := SG3 _ _ ef
            have eD3 := S1' _ _ eD
            have hm : ∀ z, z ∈ fmO os ↔ some z ∈ os := fun z => by
              unfold fmO
              simp [List.mem_filterMap]
            have hos' : ∀ e, e < ls.length → ∃ o, os[e]? = some o ∧ NextO ds g (rowF ls) ls.length (rowF (Ml e)) e i o := fun e he => by
              refine ⟨os[e], List.getElem?_eq_getElem (by omega), hos e _ (List.getElem?_eq_getElem (by omega))⟩
            have kn1 : ∀ z, z ∈ fmO os → ∃ e, e < ls.length ∧ ChD ds g (rowF ls) ls.length (fun e => rowF (Ml e)) e i z := fun z hz => by
              obtain ⟨e, he, hoe⟩ := List.mem_iff_getElem.mp ((hm z).mp hz)
              exact ⟨e, by omega, (hos e _ (List.getElem?_eq_getElem he)).is z hoe⟩
            have kn2 : ∀ e z, e < ls.length → ChD ds g (rowF ls) ls.length (fun e => rowF (Ml e)) e i z → ∃ z', z' ∈ fmO os ∧ z' ≤ z := fun e z he hz => by
              obtain ⟨o, ho, hN⟩ := hos' e he
              obtain ⟨z', rfl, hle⟩ := hN.le z hz
              exact ⟨z', (hm z').mpr (List.mem_of_getElem? ho), hle⟩
            have hfl2 : (fmO os).length ≤ 100 := by have := fmO_len os; omega
            refine ⟨tyL (SqL.of ef3), ?_⟩
            have step : ∀ (G : Hp) (u : Int), Same G3 G → (u ∈ fmO os ∨ (wantN g i = 0 ∧ u = rowF Fl i)) → (∀ y, y ∈ fmO os → u ≤ y) → (wantN g i = 0 → u ≤ rowF Fl i) → ∃ xs_1 : List V, G fr = some (.lst xs_1) ∧ xs_1.length < sizeLine ∧ ∃ l1 l2 l3 : List V, (SqL K (upd G fr (.lst (xs_1 ++ [V.int u]))) mx l1 ∧ SqL K (upd G fr (.lst (xs_1 ++ [V.int u]))) yp l2 ∧ SqL K (upd G fr (.lst (xs_1 ++ [V.int u]))) D l3) ∧
                ∀ κ : Ends, (∀ y8 y9 y10 y11 y12 y13 y14 y15 y16 y17 y18 (Fl' : List Int) (Ml' : Nat → List Int) (G' : Hp), Same (but S H2) (but S G') → G' fr = some (.lst (Fl'.map V.int)) → Fl'.length = i + 1 + 1 → (∀ e, e < ls.length → G' (ra e) = some (.lst ((Ml' e).map V.int)) ∧ (Ml' e).length = i + 1 + 1) → Bld ds g (rowF ls) ls.length (rowF Fl') (fun e => rowF (Ml' e)) (i + 1) → κ.nx [some (.ref a), some (.ref yp), some (.ref ta), some (.ref l), some v2, some (.ref ga), some (.ref fr), some (.ref mx), y8, y9, y10, y11, y12, y13, y14, y15, y16, y17, y18] G') →
                LoopR (Itz3 K mx yp D) (gTup K 3 (gCons (gName 12) (gCons (gTup K 3 (gCons (gName 13) (gCons (gName 14) (gCons (gName 15) gNil)))) (gCons (gName 16) gNil))))
                  (tSeq (tAsg (tOp (rI0 fun i j => V.int (i + j)) (tOp (rIxL K) (tVar 6) (tUn (rU fun i => V.int (-i)) (tC (V.int 1)))) (tVar 13)) (gName 17))
                    (tDrop (tBM K "list" rAppend (tVar 12) (tCons (tIf (tTest (tOp (fun x y H Q => y = V.non ∧ Q (V.bl (decide (x = V.non))) H) (tVar 16) (tC V.non))) (tVar 17) (tCB rMn (tCons (tVar 16) (tCons (tVar 17) tNil)))) tNil))))
                  κ [some (.ref a), some (.ref yp), some (.ref ta), some (.ref l), some v2, some (.ref ga), some (.ref fr), some (.ref mx), some (.int (i : Int)), some (.bl (decide (g.days[i].want = 0))), some (.ref D), some (.ref D1), y12, y13, y14, y15, y16, y17, y18] (upd G fr (.lst (xs_1 ++ [V.int u]))) := fun G u S4 u1 u2 u3 => by
              have ef4 := S4 _ _ ef3
              have SG4 := SG3.trans S4
              have Sb : Same (but S G1) (but S (upd G fr (.lst (Fl.map V.int ++ [V.int u])))) := by rw [but_upd mfr]; exact but_mono SG4
              have SB1 := SG.trans Sb
              have hD4 : but S G D = some (.lst (os.map optV)) := but_at (fun z => by
                rw [hS] at z
                rcases List.mem_cons.mp z with rfl | z
                · rw [ef] at hD; cases hD
                · obtain ⟨e, he, rfl⟩ := List.mem_map.mp z
                  rw [(hMl e (List.mem_range.mp he)).1] at hD; cases hD) (S4 _ _ eD3)
              have emx4 := SB1 _ _ emx
              have eD4 : but S (upd G fr (.lst (Fl.map V.int ++ [V.int u]))) D = some (.lst (os.map optV)) := by rw [but_upd mfr]; exact hD4
              refine ⟨_, ef4, sz100l (by rw [List.length_map]; omega), _, _, _, ⟨SqL.of (but_is emx4).2, ((SB.trans SB1).trans (but_same _ _)).seq hys, SqL.of (but_is eD4).2⟩, fun κ hκ => ?_⟩
              refine zip_rungs (n := ls.length) (i := i) (ra := ra) (xs := xs) (ds := ds) (os := os) (Fl := Fl) (u := u) (Ml := Ml) (S := S) (by omega) hi mfr mra hraI nfr emx4 ((SB.trans SB1).seq hys) (hya.same (SB.trans SB1)) hdl eD4 hol (by rw [upd_same, List.map_append]; rfl) hfl (fun e he => ⟨by rw [upd_ne (nfr e he)]; exact SG4 _ _ (hMl e he).1, (hMl e he).2⟩) fun y12 y13 y14 y15 y16 y17 G' SG' ef' hG' => hκ _ _ _ _ _ _ _ _ _ _ _ (Fl ++ [u]) (fun e => Ml e ++ [nextW ds os u e]) G' (SB1.trans SG') ef' (by rw [List.length_append, hfl]; rfl) (fun e he => ⟨hG' e he, by rw [List.length_append, (hMl e he).2]; rfl⟩) ?_
              have nw : ∀ e, e < ls.length → ∃ o, NextO ds g (rowF ls) ls.length (rowF (Ml e)) e i o ∧ nextW ds os u e = match o with | none => u + mixF ds e | some z => if u + mixF ds e < z then u + mixF ds e else z := fun e he => by
                obtain ⟨o, ho, hN⟩ := hos' e he
                refine ⟨o, hN, ?_⟩
                unfold nextW
                rw [List.getD_eq_getElem?_getD, ho]
                rfl
              have lastM : ∀ e, e < ls.length → rowF (Ml e ++ [nextW ds os u e]) (i + 1) = nextW ds os u e := fun e he => rowF_last (hMl e he).2
              have lastF : rowF (Fl ++ [u]) (i + 1) = u := rowF_last hfl
              refine hB.snoc (fun j hj => rowF_snoc (by omega)) (fun e j he hj => rowF_snoc (by have := (hMl e he).2; omega)) ?_ (fun e v he hv => ?_) (fun hw => ?_) (fun e he => ?_) (fun e v he hv => ?_) (fun e he => ?_)
              · rw [lastF]
                rcases u1 with z | z
                · obtain ⟨e, he, hc⟩ := kn1 u z
                  exact .inl ⟨e, u, he, hc, rfl⟩
                · exact .inr z
              · rw [lastF]
                obtain ⟨z', hz1, hz2⟩ := kn2 e v he hv
                have := u2 z' hz1
                omega
              · rw [lastF]; exact u3 hw
              · show ChD ds g (rowF ls) ls.length _ e i (rowF (Ml e ++ [nextW ds os u e]) (i + 1)) ∨ rowF (Ml e ++ [nextW ds os u e]) (i + 1) = _
                rw [lastF, lastM e he]
                obtain ⟨o, hN, ho⟩ := nw e he
                rw [ho]
                cases o with
                | none => exact .inr rfl
                | some z =>
                  show ChD ds g (rowF ls) ls.length _ e i (if u + mixF ds e < z then u + mixF ds e else z) ∨ (if u + mixF ds e < z then u + mixF ds e else z) = _
                  by_cases h : u + mixF ds e < z
                  · rw [if_pos h]; exact .inr rfl
                  · rw [if_neg h]; exact .inl (hN.is z rfl)
              · show rowF (Ml e ++ [nextW ds os u e]) (i + 1) ≤ v
                rw [lastM e he]
                obtain ⟨o, hN, ho⟩ := nw e he
                obtain ⟨z, rfl, hz⟩ := hN.le v hv
                rw [ho]
                show (if u + mixF ds e < z then u + mixF ds e else z) ≤ v
                by_cases h : u + mixF ds e < z
                · rw [if_pos h]; omega
                · rw [if_neg h]; exact hz
              · show rowF (Ml e ++ [nextW ds os u e]) (i + 1) ≤ _
                rw [lastF, lastM e he]
                obtain ⟨o, hN, ho⟩ := nw e he
                rw [ho]
                cases o with
                | none => exact Int.le_refl _
                | some z =>
                  show (if u + mixF ds e < z then u + mixF ds e else z) ≤ _
                  by_cases h : u + mixF ds e < z
                  · rw [if_pos h]; exact Int.le_refl _
                  · rw [if_neg h]; omega
            by_cases hw : wantN g i = 0
            · rw [if_pos (by rw [← ew]; exact decide_eq_true hw)]
              refine ⟨_, _, SqL.of ef3, atI_last (m := i) (v := .int (rowF Fl i)) (by rw [List.length_map, hfl]) (by rw [List.getElem?_map, rowF_at (by omega)]; rfl), sz100 (by decide), fun p hp => ?_⟩
              have T1 := same_upd (o := .lst [V.int (rowF Fl i)]) hp
              refine ⟨_, _, SqL.of (T1 _ _ e1'), SqL.of upd_same, sz100 (by rw [List.length_map]; show _ + 1 ≤ _; omega), fun p1 hp1 => ?_⟩
              have T2 := same_upd (o := .lst ((fmO os).map V.int ++ [V.int (rowF Fl i)])) hp1
              refine ⟨fmO os ++ [rowF Fl i], SqL.of (by rw [upd_same, List.map_append]; rfl), by rw [List.length_append]; show 0 < _ + 1; omega, fun m hm1 hm2 => ?_⟩
              obtain ⟨l0, a1, a2, l1, l2, l3, a3, a4⟩ := step _ m (T1.trans T2) (by
                rcases List.mem_append.mp hm1 with z | z
                · exact .inl z
                · exact .inr ⟨hw, List.mem_singleton.mp z⟩) (fun y hy => hm2 y (List.mem_append_left _ hy)) (fun _ => hm2 _ (List.mem_append_right _ (List.mem_singleton.mpr rfl)))
              exact ⟨l0, a1, a2, l1, l2, l3, a3, a4 _ fun _ _ _ _ _ _ _ _ _ _ _ Fl' Ml' G' b1 b2 b3 b4 b5 => ⟨_, _, _, _, _, _, _, _, _, _, _, Fl', Ml', rfl, b1, b2, b3, b4, b5⟩⟩
            · rw [if_neg (by rw [← ew, decide_eq_false hw]; decide)]
              refine ⟨fmO os, SqL.of e1', ?_, fun m hm1 hm2 => ?_⟩
              · refine List.length_pos_iff.mpr fun hnil => ?_
                obtain ⟨z, hz⟩ := own_chD (ds := ds) (lights := rowF ls) (M := fun e => rowF (Ml e)) (show i < g.days.length by omega) (life_ok c9) hi
                obtain ⟨z', hz', _⟩ := kn2 i z hi hz
                rw [hnil] at hz'
                cases hz'
              · obtain ⟨l0, a1, a2, l1, l2, l3, a3, a4⟩ := step G3 m (Same.refl _) (.inl hm1) hm2 (fun z => absurd z hw)
                exact ⟨l0, a1, a2, l1, l2, l3, a3, a4 _ fun _ _ _ _ _ _ _ _ _ _ _ Fl' Ml' G' b1 b2 b3 b4 b5 => ⟨_, _, _, _, _, _, _, _, _, _, _, Fl', Ml', rfl, b1, b2, b3, b4, b5⟩⟩
      · obtain ⟨y8, y9, y10, y11, y12, y13, y14, y15, y16, y17, y18, Fl, Ml, rfl, SG, ef, hfl, hMl, hB⟩ := hI
        walk_at "wp"
        refine ⟨sz100 (by decide), fun p hp => ?_⟩
        have SP := same_upd (o := .tup [V.ref fr, V.ref mx]) hp
        have SA := (SB.trans SG).trans (but_same _ _)
        refine q _ _ Fl Ml (SA.trans SP) ⟨p, fr, mx, ra, rfl, newOf_at (SA.free hp) upd_same, newOf_at hfr (SP _ _ ef), newOf_at (S1.free hmx) (SP _ _ (but_is (SG _ _ emx)).2), fun e he => newOf_at (S1.free (hra0 e he).1) (SP _ _ (hMl e he).1), hraI, nfr⟩ hfl (fun e he => (hMl e he).2) hB
end
end Bk


namespace Bk
open PySem PySem.Spec PyProof.Rows L2
local macro_rules | `(tactic| walk_at "wp") => `(tactic| try simp only [rMinN_r, tCKw, iZip3_eq, rZip3_r, iRng3_eq, rRng3_i, rNeN_r, tAugS, rIsDX_list, tScT2, rSetL_r, rSetOf2_r, rSorDT_r, rSetD, tDGet2, tDGet, tDNewT, cxW, rExtend_r, rSortU_r, rSetOf_r, rSortedSet_r, rNinr_r, rNeN_r, rCatL_r, rSlT_r, rListOf_r, rIsB_b, rNotB_b, tFmtO, tJs, tOst, tCallS, WE, tRaise2, rOne_i, rSorD_r, tDNewK, Int.zero_add, tNever, tFor_eq, tLc_eq, iList, iTup, iRng1_eq, rRng1_i, iRng2_eq, rRng2_i, iEnum_eq, rEnum_r, iZip_eq, rZip_r, tSl, tPart, tNoPart, rSlL_r, rCat_r, rIn_r, rNin_r, rRepr_r, iRevR, rMin_r, rShr_i, rOdd_i, rSetL_r, gSub, rRg1_i, rRg2_i, rInr_r, tAug, ipI_ii, tLstRg, tRg1, tRg2, gTup_r, gUnl_r, rInt1_b, rInt1_i, rRep_r, tStep_r, scal, tSeq, tNext, tAsg, tRet, tRetN, tIfS, tDrop, tCB, tCons, tNil, tVar, tOp, tUn, tC, rU_i, rI_ii, rI0_ii, rEq, rNe, tTest, tB, tAnd, tOr, tNot, tAndV, tOrV, tNotV, tIf, tChain, tLst, tTup, tBM, tBM0, rAppend_r, rIxL_r, rIxT_r, rMx_ii, rMn_ii, rLnL_r, rLnT_r, rIsD_int, rIsD_bool, rIsD_list, rIsD_tuple, tCall, gName, gNil_n, gCons_c, cxK, L2.start, List.map, List.replicate, List.length_cons, List.length_nil, List.cons_append, List.nil_append, List.append_nil, List.getElem?_cons_zero, List.getElem?_cons_succ, Option.some.injEq, exists_eq_left', exists_eq_left, V.int.injEq, V.bl.injEq, V.str.injEq, V.ref.injEq, List.cons.injEq, and_true, true_and, and_self, List.set, wipe, rAll_r, rSum_r, reduceCtorEq, decide_true, decide_false, reduceIte, ite_true, ite_false, if_true, if_false, Bool.false_eq_true, Bool.not_true, Bool.not_false])
local macro_rules | `(tactic| walk_at "shaped") => `(tactic| (simp only [rMinN_r, tCKw, iZip3_eq, rZip3_r, iRng3_eq, rRng3_i, rNeN_r, tAugS, rIsDX_list, SeqAt.shaped, PyData.canLay0, PyData.canLayAll0, PyData.depth, PyData.depthAll]; rfl))
local macro_rules | `(tactic| walk_at "lay") => `(tactic| (simp only [rMinN_r, tCKw, iZip3_eq, rZip3_r, iRng3_eq, rRng3_i, rNeN_r, tAugS, rIsDX_list, PyData.canLay0, PyData.canLayAll0]; rfl))
local macro_rules | `(tactic| walk_at "wg") => `(tactic| try simp only [gName, gTup_r, gCons_c, gNil_n, cxK, List.set, List.cons.injEq, and_true, true_and, exists_eq_left', exists_eq_left, List.length_cons, List.length_nil])
section
variable {P : Program} {w : World} {K : PySem.W.Frag} {mg : Str → Option Value} {base : Heap}
abbrev s_last_stretches : Stmt := top 64
theorem sc_last_stretches : FnScope ["rungs", "lights", "table", "day", "many", "firsts", "light", "prices", "at", "first"] ["rungs", "lights", "table", "day", "many"] (defScope s_last_stretches) := ⟨rfl, rfl, rfl, by decide +kernel, rfl, by decide +kernel, by decide +kernel⟩
def stpD (x : Nat × Nat × Nat) : PyData := .tuple [.int (x.1 : Int), .int (x.2.1 : Int), .int (x.2.2 : Int)]
def lastR (ds : List Dgh) (g : Good) (lights row : Nat → Int) (e m : Nat) : List (Nat × Nat × Nat) := lastD ds g lights (fun _ => row) g.days.length e m
def spLastS (K : PySem.W.Frag) : Sp := fun vs H Q _ => ∃ (ra l ta : Addr) (rs ls : List Int) (ds : List Dgh) (g : Good) (acc : List V) (e m : Nat), vs = [.ref ra, .ref l, .ref ta, .int (e : Int), .int (m : Int)] ∧ SqL K H ra (rs.map V.int) ∧ m < rs.length ∧ SqL K H l (ls.map V.int) ∧ ls.length = g.days.length ∧ SqL K H ta acc ∧ DTab ds g e H acc ∧ e < g.days.length ∧ m ≤ g.days.length ∧ g.days.length ≤ 100 ∧
  ∀ (H' : Hp) (p : Addr) (xs : List V), Same H H' → H p = none → H' p = some (.lst xs) → ThAll K (newBut H p p H') xs ((lastR ds g (rowF ls) (rowF rs) e m).map stpD) → xs.length ≤ 100 → Q (.ref p) H'
theorem filterMap_same {α β : Type} {f g : α → Option β} : ∀ {l : List α}, (∀ x, x ∈ l → f x = g x) → l.filterMap f = l.filterMap g
  | [], _ => rfl
  | x :: l, h => by
    rw [List.filterMap_cons, List.filterMap_cons, h x List.mem_cons_self, filterMap_same fun y hy => h y (List.mem_cons_of_mem _ hy)]
theorem ok_last_stretches {f : Addr} {fd : FuncData} (F : Fun K "last_stretches" "last_stretches" s_last_stretches f fd) (B : Bi mg) (Bz : mg "zip" = none) (D_first_baked_on : Def P w K mg base "first_baked_on" 1 ["row", "light", "prices", "many"] (spFbo K)) : FnOk P w K mg base CX0 2 f fd ["rungs", "lights", "table", "day", "many"] (spLastS K) := by
  refine F.ok sc_last_stretches (fun vs H Q E h => ?_) (fun cdv A outer s H vs Q E hr h => ?_)
  · obtain ⟨_, _, _, _, _, _, _, _, _, _, rfl, _⟩ := h
    rfl
  · obtain ⟨ra, l, ta, rs, ls, ds, g, acc, e, m, rfl, hra, hrl, hl, hll, hta, ⟨hal, hacc⟩, he, hm, hn, q⟩ := h
    refine ⟨_, (pss_cons (ps_setLc (i := 5) (own := [("light", 6), ("prices", 7)]) (g := (gTup K 2 (gCons (gName 6) (gCons (gName 7) gNil)))) rfl sc_last_stretches.nd rfl rfl (sw_true rfl rfl rfl (by decide +kernel)) (pi_zip (by rfl) Bz (pa_cons (pe_slice sl_list (pv 1) (po_some (pv 3)) po_none) (pa_cons (pv 2) pa_nil))) (blkOk_by (own := [("light", 6), ("prices", 7)]) (N := ["rungs", "lights", "table", "day", "many", "firsts", "light", "prices", "at", "first"]) (sc := defScope s_last_stretches) (by decide +kernel)) (fun _ _ _ _ _ => (pg_tup rfl (pgs_cons (pg_name (i := 6) sc_last_stretches.nd rfl (Or.inl rfl)) (pgs_cons (pg_name (i := 7) sc_last_stretches.nd rfl (Or.inl rfl)) pgs_nil)))) (fun _ _ _ _ _ => pts_nil) (fun _ _ _ _ _ => (pe_callD D_first_baked_on hr (by rfl) (pa_cons (pv 0) (pa_cons (pv 6) (pa_cons (pv 7) (pa_cons (pv 4) pa_nil)))))))
 (pss_one (ps_ret (pe_lc (own := [("at", 8), ("first", 9)]) (g := (gTup K 2 (gCons (gName 8) (gCons (gName 9) gNil)))) rfl sc_last_stretches.nd (pi_enum (by rfl) B.enumerate (pa_cons (pv 5) pa_nil)) (blkOk_by (own := [("at", 8), ("first", 9)]) (N := ["rungs", "lights", "table", "day", "many", "firsts", "light", "prices", "at", "first"]) (sc := defScope s_last_stretches) (by decide +kernel)) (fun _ _ _ _ _ => (pg_tup rfl (pgs_cons (pg_name (i := 8) sc_last_stretches.nd rfl (Or.inl rfl)) (pgs_cons (pg_name (i := 9) sc_last_stretches.nd rfl (Or.inl rfl)) pgs_nil)))) (fun _ _ _ _ _ => (pts_one (pt_cmpR op_notN (pv 9) pe_non (nomark _)))) (fun _ _ _ _ _ => (pe_tup (pa_cons (pv 3) (pa_cons (pe_op op_add (pv 3) (pv 8)) (pa_cons (pv 9) pa_nil))))))))), ?_⟩
    walk_at "wp"
    refine ⟨_, hl, fun p hp => ?_⟩
    rw [cutV_from]
    obtain ⟨H1, eH1, S1, E1⟩ := alloc (.lst ((ls.map V.int).drop e)) hp
    rw [eH1]
    refine ⟨_, _, SqL.of E1, S1.seq hta, fun D hD => ?_⟩
    obtain ⟨os, hos⟩ : ∃ os : List (Option Nat), os = (List.range (g.days.length - e)).map fun i => fbo (rowF rs) (wantD ds g e (e + i)) (rowF rs m) m (rowF ls (e + i)) := ⟨_, rfl⟩
    have hol : os.length = g.days.length - e := by rw [hos, List.length_map, List.length_range]
    refine LcR.map (walk_zip (n := g.days.length - e) (xs := (ls.map V.int).drop e) (ys := acc) (by rw [List.length_drop, List.length_map]; omega)) (os.map natV) hD (by rw [List.length_map, hol]) (by omega) (fun H5 s5 => ⟨SqL.of (s5 _ _ E1), (S1.trans s5).seq hta⟩) (fun _ _ _ _ y => ypair_same y) (fun i v y0 K0 K1 hi s5 yy hyv R hR => ?_) (fun H2 S2 hH2 => ?_)
    · have SYY := ypair_same yy
      obtain ⟨T2, u1, u2, rfl, hT2, rfl, g1, g2⟩ := yy
      have g1 : ((ls.map V.int).drop e)[i]? = some u1 := g1
      have g2 : acc[i]? = some u2 := g2
      obtain ⟨pq, hpq, hpw⟩ := hacc i hi
      rw [List.getElem?_drop, List.getElem?_map, rowF_at (by omega)] at g1
      rw [hpq] at g2
      cases g1
      cases g2
      have eT2 : upd K0 T2 (.tup [V.int (rowF ls (e + i)), V.ref pq]) T2 = some (.tup [V.int (rowF ls (e + i)), V.ref pq]) := upd_same
      generalize upd K0 T2 (.tup [V.int (rowF ls (e + i)), V.ref pq]) = K2 at SYY eT2 hR s5 ⊢
      walk_at "wp"
      refine ⟨_, SqT.of eT2, rfl, ?_⟩
      walk_at "wp"
      rw [hos, List.map_map, List.getElem?_map, List.getElem?_range hi] at hyv
      cases hyv
      refine ⟨ra, pq, _, _, rowF rs, wantD ds g e (e + i), rowF ls (e + i), m, rfl, (S1.trans s5).seq hra, SqL.of ((S1.trans s5) _ _ hpw), fun j hj => ?_, fun j hj => ?_, by omega, hR _ (Same.refl _)⟩
      · rw [List.getElem?_map, rowF_at (by omega)]
        rfl
      · rw [List.getElem?_map, List.getElem?_range (by omega)]
        rfl
    · walk_at "wp"
      refine ⟨_, SqL.of hH2, fun D2 hD2 => ?_⟩
      refine LcR.by (walk_enum (xs := os.map natV)) (fun i H' => Same H2 H' ∧ ∃ xs : List V, H' D2 = some (.lst xs) ∧ xs.length ≤ i ∧ ThAll K (newBut H D2 D2 H') xs (((List.range i).filterMap fun j => (os.getD j none).map fun f => (e, e + j, f)).map stpD)) ⟨same_upd hD2, [], upd_same, Nat.le_refl _, .nil⟩ (fun _ _ _ h => SqL.of (h.1 _ _ hH2)) (fun i v K0 K1 hi hI yy => ?_) (fun H3 hI => ?_)
      · obtain ⟨SI, xs, eD, hxl, hth⟩ := hI
        have SYY := ypair_same yy
        obtain ⟨T2, u1, u2, rfl, hT2, rfl, g1, g2⟩ := yy
        cases g1
        have g2 : (os.map natV)[i]? = some u2 := g2
        rw [List.getElem?_map] at g2
        obtain ⟨o, ho, rfl⟩ := Option.map_eq_some_iff.mp g2
        have eT2 : upd K0 T2 (.tup [V.int (i : Int), natV o]) T2 = some (.tup [V.int (i : Int), natV o]) := upd_same
        generalize upd K0 T2 (.tup [V.int (i : Int), natV o]) = K2 at SYY eT2 ⊢
        have er : ((List.range (i + 1)).filterMap fun j => (os.getD j none).map fun f => (e, e + j, f)) = ((List.range i).filterMap fun j => (os.getD j none).map fun f => (e, e + j, f)) ++ (o.map fun f => (e, e + i, f)).toList := by
          rw [List.range_succ, List.filterMap_append]
          congr 1
          rw [List.filterMap_cons, List.filterMap_nil, List.getD_eq_getElem?_getD, ho]
          cases o <;> rfl
        rw [er]
        generalize ((List.range i).filterMap fun j => (os.getD j none).map fun f => (e, e + j, f)) = L at hth ⊢
        have eD2 := SYY _ _ eD
        have hth2 := hth.same (newBut_mono (H := H) (l := D2) (m := D2) fun b o _ _ e => SYY b o e)
        have SI2 := SI.trans SYY
        walk_at "wp"
        refine ⟨_, SqT.of eT2, rfl, ?_⟩
        walk_at "wp"
        cases o with
        | none =>
          rw [if_neg (show ¬ (!decide (natV none = V.non)) = true by decide)]
          refine ⟨SI2, xs, eD2, by omega, ?_⟩
          simp only [Option.map_none, Option.toList, List.append_nil]
          exact hth2
        | some f =>
          rw [if_pos (show (!decide (natV (some f) = V.non)) = true by rw [decide_eq_false (fun h => nomatch h)]; rfl)]
          refine ⟨sz100 (by decide), fun p hp => ?_⟩
          have npD : p ≠ D2 := fun z => by rw [z, eD2] at hp; cases hp
          have SP := same_upd (o := .tup [V.int (e : Int), V.int ((e : Int) + (i : Int)), natV (some f)]) hp
          have eP : upd K2 p (.tup [V.int (e : Int), V.int ((e : Int) + (i : Int)), natV (some f)]) p = some (.tup [V.int (e : Int), V.int ((e : Int) + (i : Int)), natV (some f)]) := upd_same
          generalize upd K2 p (.tup [V.int (e : Int), V.int ((e : Int) + (i : Int)), natV (some f)]) = K3 at SP eP ⊢
          have hi' : i < 100 := by rw [List.length_map] at hi; omega
          refine ⟨xs, SP _ _ eD2, sz100l (by omega), same_mut (SI2.trans SP) hD2, xs ++ [V.ref p], upd_same, by rw [List.length_append]; show _ + 1 ≤ _; omega, ?_⟩
          rw [List.map_append]
          have SU : Same (newBut H D2 D2 K3) (newBut H D2 D2 (upd K3 D2 (.lst (xs ++ [V.ref p])))) := newBut_mono fun b o h1 _ e => by rw [upd_ne h1]; exact e
          have hpH : H p = none := ((S1.trans S2).trans SI2).free hp
          refine ((hth2.same (newBut_mono fun b o _ _ e => SP b o e)).same SU).append (.cons (.tup (SqT.of (SU _ _ (newBut_at hpH npD npD eP))) (.cons (.int _) (.cons ?_ (.cons (.int _) .nil)))) .nil)
          have : ((e : Int) + (i : Int)) = ((e + i : Nat) : Int) := by omega
          rw [this]
          exact .int _
      · obtain ⟨SI, xs, eD, hxl, hth⟩ := hI
        refine q _ D2 xs ((S1.trans S2).trans SI) ((S1.trans S2).free hD2) eD ?_ (by rw [List.length_map] at hxl; omega)
        have el : ((List.range (os.map natV).length).filterMap fun j => (os.getD j none).map fun f => (e, e + j, f)) = lastR ds g (rowF ls) (rowF rs) e m := by
          unfold lastR lastD
          rw [List.length_map, hol]
          refine filterMap_same fun j hj => ?_
          rw [hos, List.getD_eq_getElem?_getD, List.getElem?_map, List.getElem?_range (List.mem_range.mp hj)]
          rfl
        rw [← el]
        exact hth
end
end Bk


namespace Bk
open PySem PySem.Spec PyProof.Rows L2
local macro_rules | `(tactic| walk_at "wp") => `(tactic| try simp only [rMinN_r, tCKw, iZip3_eq, rZip3_r, iRng3_eq, rRng3_i, rNeN_r, tAugS, rIsDX_list, tScT2, rSetL_r, rSetOf2_r, rSorDT_r, rSetD, tDGet2, tDGet, tDNewT, cxW, rExtend_r, rSortU_r, rSetOf_r, rSortedSet_r, rNinr_r, rNeN_r, rCatL_r, rSlT_r, rListOf_r, rIsB_b, rNotB_b, tFmtO, tJs, tOst, tCallS, WE, tRaise2, rOne_i, rSorD_r, tDNewK, Int.zero_add, tNever, tFor_eq, tLc_eq, iList, iTup, iRng1_eq, rRng1_i, iRng2_eq, rRng2_i, iEnum_eq, rEnum_r, iZip_eq, rZip_r, tSl, tPart, tNoPart, rSlL_r, rCat_r, rIn_r, rNin_r, rRepr_r, iRevR, rMin_r, rShr_i, rOdd_i, rSetL_r, gSub, rRg1_i, rRg2_i, rInr_r, tAug, ipI_ii, tLstRg, tRg1, tRg2, gTup_r, gUnl_r, rInt1_b, rInt1_i, rRep_r, tStep_r, scal, tSeq, tNext, tAsg, tRet, tRetN, tIfS, tDrop, tCB, tCons, tNil, tVar, tOp, tUn, tC, rU_i, rI_ii, rI0_ii, rEq, rNe, tTest, tB, tAnd, tOr, tNot, tAndV, tOrV, tNotV, tIf, tChain, tLst, tTup, tBM, tBM0, rAppend_r, rIxL_r, rIxT_r, rMx_ii, rMn_ii, rLnL_r, rLnT_r, rIsD_int, rIsD_bool, rIsD_list, rIsD_tuple, tCall, gName, gNil_n, gCons_c, cxK, L2.start, List.map, List.replicate, List.length_cons, List.length_nil, List.cons_append, List.nil_append, List.append_nil, List.getElem?_cons_zero, List.getElem?_cons_succ, Option.some.injEq, exists_eq_left', exists_eq_left, V.int.injEq, V.bl.injEq, V.str.injEq, V.ref.injEq, List.cons.injEq, and_true, true_and, and_self, List.set, wipe, rAll_r, rSum_r, reduceCtorEq, decide_true, decide_false, reduceIte, ite_true, ite_false, if_true, if_false, Bool.false_eq_true, Bool.not_true, Bool.not_false])
local macro_rules | `(tactic| walk_at "shaped") => `(tactic| (simp only [rMinN_r, tCKw, iZip3_eq, rZip3_r, iRng3_eq, rRng3_i, rNeN_r, tAugS, rIsDX_list, SeqAt.shaped, PyData.canLay0, PyData.canLayAll0, PyData.depth, PyData.depthAll]; rfl))
local macro_rules | `(tactic| walk_at "lay") => `(tactic| (simp only [rMinN_r, tCKw, iZip3_eq, rZip3_r, iRng3_eq, rRng3_i, rNeN_r, tAugS, rIsDX_list, PyData.canLay0, PyData.canLayAll0]; rfl))
local macro_rules | `(tactic| walk_at "wg") => `(tactic| try simp only [gName, gTup_r, gCons_c, gNil_n, cxK, List.set, List.cons.injEq, and_true, true_and, exists_eq_left', exists_eq_left, List.length_cons, List.length_nil])
section
variable {P : Program} {w : World} {K : PySem.W.Frag} {mg : Str → Option Value} {base : Heap}
abbrev s_last_free_stretch : Stmt := top 65
theorem sc_last_free_stretch : FnScope ["ladder", "lights", "tables", "many", "free", "mixed", "found", "day", "rungs"] ["ladder", "lights", "tables", "many"] (defScope s_last_free_stretch) := ⟨rfl, rfl, rfl, by decide +kernel, rfl, by decide +kernel, by decide +kernel⟩
theorem LadH.same {H H' : Hp} {v : V} {n : Nat} {Fl : List Int} {Ml : Nat → List Int} (h : LadH H v n Fl Ml) (s : Same H H') : LadH H' v n Fl Ml := by
  obtain ⟨t, fr, mx, ra, rfl, h1, h2, h3, h4⟩ := h.ex
  exact ⟨t, fr, mx, ra, rfl, s _ _ h1, s _ _ h2, s _ _ h3, fun e he => s _ _ (h4 e he)⟩
def spLastF (K : PySem.W.Frag) : Sp := fun vs H Q _ => ∃ (v : V) (l ta : Addr) (Fl ls : List Int) (Ml : Nat → List Int) (ds : List Dgh) (g : Good) (m : Nat), vs = [v, .ref l, .ref ta, .int (m : Int)] ∧ LadH H v g.days.length Fl Ml ∧ Fl.length = g.days.length + 1 ∧ (∀ e, e < g.days.length → (Ml e).length = g.days.length + 1) ∧ SqL K H l (ls.map V.int) ∧ ls.length = g.days.length ∧ Tabs ds g g.days.length H ta ∧ m ≤ g.days.length ∧ g.days.length ≤ 40 ∧
  lastF ds g (rowF ls) (rowF Fl) (fun e => rowF (Ml e)) g.days.length m ≠ [] ∧
  ∀ (H' : Hp) (t : V) (x : Nat × Nat × Nat) (l : List (Nat × Nat × Nat)), Same H H' → lastF ds g (rowF ls) (rowF Fl) (fun e => rowF (Ml e)) g.days.length m = x :: l → Th K H' t (stpD x) → Q t H'
theorem ok_last_free_stretch {f : Addr} {fd : FuncData} (F : Fun K "last_free_stretch" "last_free_stretch" s_last_free_stretch f fd) (B : Bi mg) (D_last_stretches : Def P w K mg base "last_stretches" 2 ["rungs", "lights", "table", "day", "many"] (spLastS K)) : FnOk P w K mg base CX0 3 f fd ["ladder", "lights", "tables", "many"] (spLastF K) := by
  refine F.ok sc_last_free_stretch (fun vs H Q E h => ?_) (fun cdv A outer s H vs Q E hr h => ?_)
  · obtain ⟨_, _, _, _, _, _, _, _, _, rfl, _⟩ := h
    rfl
  · obtain ⟨v, l, ta, Fl, ls, Ml, ds, g, m, rfl, hL, hFl, hMl, hl, hll, hta, hm, hn, hne, q⟩ := h
    refine ⟨_, (pss_cons (ps_asg (pv 0) (pg_tup rfl (pgs_cons (pg_name (i := 4) sc_last_free_stretch.nd rfl (Or.inl rfl)) (pgs_cons (pg_name (i := 5) sc_last_free_stretch.nd rfl (Or.inl rfl)) pgs_nil))))
 (pss_cons (ps_set (i := 6) sc_last_free_stretch.nd rfl (Or.inl rfl) (pe_lst pa_nil))
 (pss_cons (ps_for PassesOwn.never rfl (pi_enum (by rfl) B.enumerate (pa_cons (pv 5) pa_nil)) (pg_tup rfl (pgs_cons (pg_name (i := 7) sc_last_free_stretch.nd rfl (Or.inl rfl)) (pgs_cons (pg_name (i := 8) sc_last_free_stretch.nd rfl (Or.inl rfl)) pgs_nil))) (pss_one (ps_if (pt_cmpR op_eq (pe_ix ix_list (pv 8) (pv 3) (fun _ _ => rfl)) (pe_ix ix_list (pv 4) (pv 3) (fun _ _ => rfl)) (nomark _)) (pss_one (ps_expr (pe_bm PySem.F.plainAttrs_list PySem.F.slot_list_extend PySem.F.type_list_extend mt_extend (pv 6) (pa_cons (pe_callD D_last_stretches hr (by rfl) (pa_cons (pv 8) (pa_cons (pv 1) (pa_cons (pe_ix ix_list (pv 2) (pv 7) (fun _ _ => rfl)) (pa_cons (pv 7) (pa_cons (pv 3) pa_nil)))))) pa_nil)))) pss_nil)))
 (pss_one (ps_ret (pe_ix ix_list (pv 6) pe_int (fun _ _ => rfl))))))), ?_⟩
    obtain ⟨t, fr, mx, ra, rfl, h1, h2, h3, h4⟩ := hL.ex
    walk_at "wp"
    refine ⟨_, SqT.of h1, rfl, ?_⟩
    walk_at "wp"
    refine ⟨sz100 (by decide), fun D hD => ?_⟩
    obtain ⟨H1, eH1, S1, E1⟩ := alloc (.lst []) hD
    rw [eH1]
    have nD : ∀ {b : Addr} {o : HO}, H b = some o → b ∉ [D] := fun eb z => by rw [List.mem_singleton.mp z, hD] at eb; cases eb
    have SB : Same H (but [D] H1) := fun b o eb => but_at (nD eb) (S1 _ _ eb)
    refine ⟨_, SqL.of (S1 _ _ h3), ?_⟩
    refine LoopR.by (walk_enum (xs := (List.range g.days.length).map fun e => V.ref (ra e))) (fun i σ H' => ∃ (y7 y8 : Option V) (xs : List V), σ = [some (.ref t), some (.ref l), some (.ref ta), some (.int (m : Int)), some (.ref fr), some (.ref mx), some (.ref D), y7, y8] ∧ Same (but [D] H1) (but [D] H') ∧ H' D = some (.lst xs) ∧ xs.length ≤ 100 * i ∧ ThAll K (but [D] H') xs (((List.range i).flatMap fun e => if rowF (Ml e) m = rowF Fl m then lastD ds g (rowF ls) (fun e => rowF (Ml e)) g.days.length e m else []).map stpD)) ⟨none, none, [], rfl, Same.refl _, E1, Nat.zero_le _, .nil⟩ (fun i σ H' _ hI => ?_) (fun i v σ K0 K1 hi hI yy => ?_) (fun σ H3 hI => ?_)
    · obtain ⟨_, _, _, _, SI, _⟩ := hI
      exact SqL.of (((SB.trans SI).trans (but_same _ _)) _ _ h3)
    · obtain ⟨y7, y8, xs, rfl, SI, eD, hxl, hth⟩ := hI
      have SYY := ypair_same yy
      obtain ⟨T2, u1, u2, rfl, hT2, rfl, g1, g2⟩ := yy
      cases g1
      rw [List.length_map, List.length_range] at hi
      have g2 : ((List.range g.days.length).map fun e => V.ref (ra e))[i]? = some u2 := g2
      rw [List.getElem?_map, List.getElem?_range hi] at g2
      cases g2
      have eT2 : upd K0 T2 (.tup [V.int (i : Int), V.ref (ra i)]) T2 = some (.tup [V.int (i : Int), V.ref (ra i)]) := upd_same
      generalize upd K0 T2 (.tup [V.int (i : Int), V.ref (ra i)]) = K2 at SYY eT2 ⊢
      have er : ((List.range (i + 1)).flatMap fun e => if rowF (Ml e) m = rowF Fl m then lastD ds g (rowF ls) (fun e => rowF (Ml e)) g.days.length e m else []) = ((List.range i).flatMap fun e => if rowF (Ml e) m = rowF Fl m then lastD ds g (rowF ls) (fun e => rowF (Ml e)) g.days.length e m else []) ++ (if rowF (Ml i) m = rowF Fl m then lastD ds g (rowF ls) (fun e => rowF (Ml e)) g.days.length i m else []) := by
        rw [List.range_succ, List.flatMap_append]
        congr 1
        simp
      rw [er]
      generalize ((List.range i).flatMap fun e => if rowF (Ml e) m = rowF Fl m then lastD ds g (rowF ls) (fun e => rowF (Ml e)) g.days.length e m else []) = L at hth ⊢
      have eD2 := SYY _ _ eD
      have hth2 := hth.same (but_mono (S := [D]) SYY)
      have SI2 := SI.trans (but_mono SYY)
      have SB2 := SB.trans SI2
      have SH := SB2.trans (but_same _ _)
      rw [gTup_r]
      refine ⟨_, SqT.of eT2, rfl, ?_⟩
      walk_at "wp"
      refine ⟨_, _, SqL.of (SH _ _ (h4 i hi)), atI_nat (j := m) (v := .int (rowF (Ml i) m)) (by rw [List.getElem?_map, rowF_at (by have := hMl i hi; omega)]; rfl), _, _, SqL.of (SH _ _ h2), atI_nat (j := m) (v := .int (rowF Fl m)) (by rw [List.getElem?_map, rowF_at (by omega)]; rfl), ?_⟩
      walk_at "wp"
      by_cases hc : rowF (Ml i) m = rowF Fl m
      · rw [if_pos (decide_eq_true hc), if_pos hc]
        obtain ⟨tabs, ht1, ht2, ht3⟩ := hta
        obtain ⟨qt, acc, tq1, tq2, tq3⟩ := ht3 i hi
        refine ⟨tyL (SqL.of eD2), _, _, SqL.of (SH _ _ ht1), atI_nat tq1, ?_⟩
        refine ⟨ra i, l, qt, Ml i, ls, ds, g, acc, i, m, rfl, SqL.of (SH _ _ (h4 i hi)), by have := hMl i hi; omega, SH.seq hl, hll, SqL.of (SH _ _ tq2), tq3.same SH, hi, hm, by omega, fun H5 p ys S5 hp ep hys hyl => ?_⟩
        have npD : p ≠ D := fun z => by rw [z, eD2] at hp; cases hp
        walk_at "wp"
        refine ⟨xs, ys, S5 _ _ eD2, ep, sz100 (by omega), ?_⟩
        refine ⟨_, _, xs ++ ys, ⟨rfl, rfl⟩, by rw [but_upd (List.mem_singleton.mpr rfl)]; exact SI2.trans (but_mono S5), upd_same, by rw [List.length_append]; omega, ?_⟩
        rw [but_upd (List.mem_singleton.mpr rfl), List.map_append]
        refine (hth2.same (but_mono S5)).append (hys.same fun b o e => ?_)
        have e1 := newBut_same _ _ _ _ _ _ e
        refine but_at (fun z => ?_) (newOf_same _ _ _ _ e1)
        rw [List.mem_singleton.mp z] at e1
        unfold newOf at e1
        rw [eD2] at e1
        exact nomatch e1
      · rw [if_neg (by rw [decide_eq_false hc]; decide), if_neg hc, List.append_nil]
        exact ⟨_, _, xs, ⟨rfl, rfl⟩, SI2, eD2, by omega, hth2⟩
    · obtain ⟨y7, y8, xs, rfl, SI, eD, hxl, hth⟩ := hI
      rw [List.length_map, List.length_range] at hth
      walk_at "wp"
      obtain ⟨x, L, hx⟩ := List.exists_cons_of_ne_nil hne
      have hx0 := hx
      unfold lastF at hx
      rw [hx] at hth
      cases hth with
      | cons h1 h2 => exact ⟨_, _, SqL.of eD, atI_nat (j := 0) rfl, q _ _ x L ((SB.trans SI).trans (but_same _ _)) hx0 (h1.same (but_same _ _))⟩
end
end Bk


namespace Bk
open PySem PySem.Spec PyProof.Rows L2
local macro_rules | `(tactic| walk_at "wp") => `(tactic| try simp only [rMinN_r, tCKw, iZip3_eq, rZip3_r, iRng3_eq, rRng3_i, rNeN_r, tAugS, rIsDX_list, tScT2, rSetL_r, rSetOf2_r, rSorDT_r, rSetD, tDGet2, tDGet, tDNewT, cxW, rExtend_r, rSortU_r, rSetOf_r, rSortedSet_r, rNinr_r, rNeN_r, rCatL_r, rSlT_r, rListOf_r, rIsB_b, rNotB_b, tFmtO, tJs, tOst, tCallS, WE, tRaise2, rOne_i, rSorD_r, tDNewK, Int.zero_add, tNever, tFor_eq, tLc_eq, iList, iTup, iRng1_eq, rRng1_i, iRng2_eq, rRng2_i, iEnum_eq, rEnum_r, iZip_eq, rZip_r, tSl, tPart, tNoPart, rSlL_r, rCat_r, rIn_r, rNin_r, rRepr_r, iRevR, rMin_r, rShr_i, rOdd_i, rSetL_r, gSub, rRg1_i, rRg2_i, rInr_r, tAug, ipI_ii, tLstRg, tRg1, tRg2, gTup_r, gUnl_r, rInt1_b, rInt1_i, rRep_r, tStep_r, scal, tSeq, tNext, tAsg, tRet, tRetN, tIfS, tDrop, tCB, tCons, tNil, tVar, tOp, tUn, tC, rU_i, rI_ii, rI0_ii, rEq, rNe, tTest, tB, tAnd, tOr, tNot, tAndV, tOrV, tNotV, tIf, tChain, tLst, tTup, tBM, tBM0, rAppend_r, rIxL_r, rIxT_r, rMx_ii, rMn_ii, rLnL_r, rLnT_r, rIsD_int, rIsD_bool, rIsD_list, rIsD_tuple, tCall, gName, gNil_n, gCons_c, cxK, L2.start, List.map, List.replicate, List.length_cons, List.length_nil, List.cons_append, List.nil_append, List.append_nil, List.getElem?_cons_zero, List.getElem?_cons_succ, Option.some.injEq, exists_eq_left', exists_eq_left, V.int.injEq, V.bl.injEq, V.str.injEq, V.ref.injEq, List.cons.injEq, and_true, true_and, and_self, List.set, wipe, rAll_r, rSum_r, reduceCtorEq, decide_true, decide_false, reduceIte, ite_true, ite_false, if_true, if_false, Bool.false_eq_true, Bool.not_true, Bool.not_false])
local macro_rules | `(tactic| walk_at "shaped") => `(tactic| (simp only [rMinN_r, tCKw, iZip3_eq, rZip3_r, iRng3_eq, rRng3_i, rNeN_r, tAugS, rIsDX_list, SeqAt.shaped, PyData.canLay0, PyData.canLayAll0, PyData.depth, PyData.depthAll]; rfl))
local macro_rules | `(tactic| walk_at "lay") => `(tactic| (simp only [rMinN_r, tCKw, iZip3_eq, rZip3_r, iRng3_eq, rRng3_i, rNeN_r, tAugS, rIsDX_list, PyData.canLay0, PyData.canLayAll0]; rfl))
local macro_rules | `(tactic| walk_at "wg") => `(tactic| try simp only [gName, gTup_r, gCons_c, gNil_n, cxK, List.set, List.cons.injEq, and_true, true_and, exists_eq_left', exists_eq_left, List.length_cons, List.length_nil])
section
variable {P : Program} {w : World} {K : PySem.W.Frag} {mg : Str → Option Value} {base : Heap}
abbrev s_walked_back : Stmt := top 66
theorem sc_walked_back : FnScope ["bakery", "doughs", "ladder", "tables", "lights", "bound", "goods", "free", "mixed", "stretches", "day", "many", "rungs", "baked", "first"] ["bakery", "doughs", "ladder", "tables"] (defScope s_walked_back) := ⟨rfl, rfl, rfl, by decide +kernel, rfl, by decide +kernel, by decide +kernel⟩
theorem ifS_cut {c : TT} {A B : TS} {D : Ends} {σ : L2.St} {H : Hp} (PA PB : Hp → Prop) (hA : ∀ H1, PA H1 → A D σ H1) (hB : ∀ H1, PB H1 → B D σ H1) (h : ∀ NA NB : Hp → Prop, (∀ H1, PA H1 → NA H1) → (∀ H1, PB H1 → NB H1) → c σ H fun b H1 => if b = true then NA H1 else NB H1) : tIfS c A B D σ H := h _ _ hA hB
def st4D (x : Stp) : PyData := .tuple [.int (x.e : Int), .int (x.b : Int), .int (x.f : Int), .int (x.m : Int)]
abbrev WalkL (ds : List Dgh) (g : Good) (ls Fl : List Int) (Ml : Nat → List Int) : Nat → Nat → Option Nat → List Stp := walkD ds g (rowF ls) (rowF Fl) (fun e => rowF (Ml e)) g.days.length
def spWalked (K : PySem.W.Frag) : Sp := fun vs H Q _ => ∃ (x y v : V) (ta : Addr) (Fl ls : List Int) (Ml : Nat → List Int) (ds : List Dgh) (g : Good), vs = [x, y, v, .ref ta] ∧ Th K H x (bakD ⟨ls, none, [g]⟩) ∧ bakB (bakD ⟨ls, none, [g]⟩) = true ∧ Th K H y (doughsD ds) ∧ ds.length = g.days.length ∧ (∀ b, 0 ≤ mixF ds b) ∧ LadH H v g.days.length Fl Ml ∧ Fl.length = g.days.length + 1 ∧ (∀ e, e < g.days.length → (Ml e).length = g.days.length + 1) ∧ Tabs ds g g.days.length H ta ∧ Bld ds g (rowF ls) g.days.length (rowF Fl) (fun e => rowF (Ml e)) g.days.length ∧
  ∀ (H' : Hp) (p : Addr) (xs : List V), Same H H' → H p = none → H' p = some (.lst xs) → ThAll K (newBut H p p H') xs ((WalkL ds g ls Fl Ml g.days.length g.days.length none).map st4D) → Q (.ref p) H'
theorem walkD_zero {ds : List Dgh} {g : Good} {lights F : Nat → Int} {M : Nat → Nat → Int} {n k : Nat} {o : Option Nat} : walkD ds g lights F M n k 0 o = [] := by
  cases k <;> rfl
theorem ok_walked_back {f : Addr} {fd : FuncData} (F : Fun K "walked_back" "walked_back" s_walked_back f fd) (B : Bi mg) (D_is_unwanted : Def P w K mg base "is_unwanted" 1 ["good", "day"] (spUnw K)) (D_last_stretches : Def P w K mg base "last_stretches" 2 ["rungs", "lights", "table", "day", "many"] (spLastS K)) (D_last_free_stretch : Def P w K mg base "last_free_stretch" 3 ["ladder", "lights", "tables", "many"] (spLastF K)) : FnOk P w K mg base CX0 4 f fd ["bakery", "doughs", "ladder", "tables"] (spWalked K) := by
  refine F.ok sc_walked_back (fun vs H Q E h => ?_) (fun cdv A outer s H vs Q E hr h => ?_)
  · obtain ⟨_, _, _, _, _, _, _, _, _, rfl, _⟩ := h
    rfl
  · obtain ⟨x, y, v, ta, Fl, ls, Ml, ds, g, rfl, hx, hb, hy, hdl, hmix, hL, hFl, hMl, hta, hB, q⟩ := h
    refine ⟨_, (pss_cons (ps_asg (pv 0) (pg_tup rfl (pgs_cons (pg_name (i := 4) sc_walked_back.nd rfl (Or.inl rfl)) (pgs_cons (pg_name (i := 5) sc_walked_back.nd rfl (Or.inl rfl)) (pgs_cons (pg_name (i := 6) sc_walked_back.nd rfl (Or.inl rfl)) pgs_nil)))))
 (pss_cons (ps_asg (pv 2) (pg_tup rfl (pgs_cons (pg_name (i := 7) sc_walked_back.nd rfl (Or.inl rfl)) (pgs_cons (pg_name (i := 8) sc_walked_back.nd rfl (Or.inl rfl)) pgs_nil))))
 (pss_cons (ps_set (i := 9) sc_walked_back.nd rfl (Or.inl rfl) (pe_lst pa_nil))
 (pss_cons (ps_set (i := 10) sc_walked_back.nd rfl (Or.inl rfl) pe_non)
 (pss_cons (ps_set (i := 11) sc_walked_back.nd rfl (Or.inl rfl) (pe_callB call_lnL (by rfl) B.len (by decide +kernel) (pa_cons (pv 4) pa_nil)))
 (pss_cons (ps_while PassesOwn.never (pt_cmpR op_gt (pv 11) pe_int (nomark _)) (pss_cons (ps_if (PW.pt (pw_and (pt_cmpR op_notN (pv 10) pe_non (nomark _)) (pw_and1 (pt_cmpR op_eq (pe_ix ix_list (pe_ix ix_list (pv 8) (pv 10) (fun _ _ => rfl)) (pv 11) (fun _ _ => rfl)) (pe_op op_add (pe_ix ix_list (pv 7) (pv 11) (fun _ _ => rfl)) (pe_ix ix_tup (pe_ix ix_list (pv 1) (pv 10) (fun _ _ => rfl)) pe_int (fun _ _ => rfl))) (nomark _))))) (pss_one (ps_set (i := 10) sc_walked_back.nd rfl (Or.inl rfl) pe_non)) pss_nil)
 (pss_cons (ps_set (i := 12) sc_walked_back.nd rfl (Or.inl rfl) (pe_ifExp (pt_cmpR op_isN (pv 10) pe_non (nomark _)) (pv 7) (pe_ix ix_list (pv 8) (pv 10) (fun _ _ => rfl))))
 (pss_one (ps_if (PW.pt (pw_and (pt_val (pe_callD D_is_unwanted hr (by rfl) (pa_cons (pe_ix ix_list (pv 6) pe_int (fun _ _ => rfl)) (pa_cons (pe_op op_sub (pv 11) pe_int) pa_nil)))) (pw_and1 (pt_cmpR op_eq (pe_ix ix_list (pv 12) (pv 11) (fun _ _ => rfl)) (pe_ix ix_list (pv 12) (pe_op op_sub (pv 11) pe_int) (fun _ _ => rfl)) (nomark _))))) (pss_one (ps_aug (i := 11) sc_walked_back.nd rfl (Or.inl rfl) pe_int ip_sub)) (pss_cons (ps_if (pt_cmpR op_isN (pv 10) pe_non (nomark _)) (pss_one (ps_asg (pe_callD D_last_free_stretch hr (by rfl) (pa_cons (pv 2) (pa_cons (pv 4) (pa_cons (pv 3) (pa_cons (pv 11) pa_nil))))) (pg_tup rfl (pgs_cons (pg_name (i := 10) sc_walked_back.nd rfl (Or.inl rfl)) (pgs_cons (pg_name (i := 13) sc_walked_back.nd rfl (Or.inl rfl)) (pgs_cons (pg_name (i := 14) sc_walked_back.nd rfl (Or.inl rfl)) pgs_nil)))))) (pss_one (ps_asg (pe_ix ix_list (pe_callD D_last_stretches hr (by rfl) (pa_cons (pv 12) (pa_cons (pv 4) (pa_cons (pe_ix ix_list (pv 3) (pv 10) (fun _ _ => rfl)) (pa_cons (pv 10) (pa_cons (pv 11) pa_nil)))))) pe_int (fun _ _ => rfl)) (pg_tup rfl (pgs_cons (pg_name (i := 10) sc_walked_back.nd rfl (Or.inl rfl)) (pgs_cons (pg_name (i := 13) sc_walked_back.nd rfl (Or.inl rfl)) (pgs_cons (pg_name (i := 14) sc_walked_back.nd rfl (Or.inl rfl)) pgs_nil)))))))
 (pss_cons (ps_expr (pe_bm PySem.F.plainAttrs_list PySem.F.slot_list_append PySem.F.type_list_append mt_append (pv 9) (pa_cons (pe_tup (pa_cons (pv 10) (pa_cons (pv 13) (pa_cons (pv 14) (pa_cons (pv 11) pa_nil))))) pa_nil)))
 (pss_one (ps_set (i := 11) sc_walked_back.nd rfl (Or.inl rfl) (pv 14))))))))))
 (pss_one (ps_ret (pv 9))))))))), ?_⟩
    obtain ⟨⟨c1, c2⟩, c3, _, _, c7⟩ := bak_parts hb
    obtain ⟨c8, c9, hok⟩ := c7 g (List.mem_singleton.mpr rfl)
    dsimp only at c1 c2 c3 c8
    obtain ⟨a, l, v2, ga, xl, xg, rfl, ht, hl, hla, h2, hgl, hga⟩ := Th.bak hx
    obtain ⟨vg, hv, hvg⟩ := hga.get' (i := 0) (d := goodD g) rfl
    obtain rfl : xl = ls.map V.int := hla.intsV
    obtain ⟨yp, xs0, rfl, hys, hya⟩ := Th.doughs hy
    obtain ⟨t, fr, mx, ra, rfl, k1, k2, k3, k4⟩ := hL.ex
    walk_at "wp"
    refine ⟨_, ht, rfl, ?_⟩
    walk_at "wp"
    refine ⟨_, SqT.of k1, rfl, ?_⟩
    walk_at "wp"
    refine ⟨sz100 (by decide), fun D hD => ?_⟩
    obtain ⟨H1, eH1, S1, E1⟩ := alloc (.lst []) hD
    rw [eH1]
    have nD : ∀ {b : Addr} {o : HO}, H b = some o → b ∉ [D] := fun eb z => by rw [List.mem_singleton.mp z, hD] at eb; cases eb
    have SB : Same H (but [D] H1) := fun b o eb => but_at (nD eb) (S1 _ _ eb)
    refine ⟨_, S1.seq hl, ?_⟩
    rw [List.length_map]
    refine while_by g.days.length (fun i σ H' => ∃ (m k : Nat) (day : Option Nat) (y12 y13 y14 : Option V) (xs : List V) (L : List Stp), σ = [some (.ref a), some (.ref yp), some (.ref t), some (.ref ta), some (.ref l), some v2, some (.ref ga), some (.ref fr), some (.ref mx), some (.ref D), some (natV day), some (.int (m : Int)), y12, y13, y14] ∧ Same (but [D] H1) (but [D] H') ∧ H' D = some (.lst xs) ∧ ThAll K (newBut H D D H') xs (L.map st4D) ∧ m + i ≤ g.days.length ∧ xs.length ≤ i ∧ m ≤ k ∧ (∀ e, day = some e → e < g.days.length) ∧ L ++ WalkL ds g ls Fl Ml k m day = WalkL ds g ls Fl Ml g.days.length g.days.length none)
      ⟨ls.length, g.days.length, none, none, none, none, [], [], rfl, Same.refl _, E1, .nil, by omega, Nat.le_refl _, by omega, (fun e he => by cases he), by rw [← c8, List.nil_append]⟩ (fun i σ H2 hi hI => ?_)
    obtain ⟨m, k, day, y12, y13, y14, xs, L, rfl, SI, eD, hth, hmi, hxi, hmk, hday, hW⟩ := hI
    have SH := (SB.trans SI).trans (but_same _ _)
    walk_at "wp"
    by_cases hm : 0 < m
    · rw [if_pos (decide_eq_true (show (0 : Int) < (m : Int) by omega))]
      obtain ⟨m, rfl⟩ : ∃ m', m = m' + 1 := ⟨m - 1, by omega⟩
      obtain ⟨k, rfl⟩ : ∃ k', k = k' + 1 := ⟨k - 1, by omega⟩
      refine wstep (by omega) ?_
      obtain ⟨o, ho⟩ : ∃ o, o = paid ds (rowF Fl) (fun e => rowF (Ml e)) (m + 1) day := ⟨_, rfl⟩
      have hoe : ∀ e, o = some e → e < g.days.length ∧ rowF (Ml e) (m + 1) ≠ rowF Fl (m + 1) + mixF ds e := fun e he => by
        rw [ho] at he
        unfold paid at he
        cases day with
        | none => cases he
        | some e' =>
          dsimp only at he
          split at he
          · cases he
          · cases he
            exact ⟨hday _ rfl, by assumption⟩
      have hFm : ∀ j, j ≤ m + 1 → H2 fr = some (.lst (Fl.map V.int)) ∧ (Fl.map V.int)[j]? = some (.int (rowF Fl j)) := fun j hj => ⟨SH _ _ k2, by rw [List.getElem?_map, rowF_at (by omega)]; rfl⟩
      have hMm : ∀ e j, e < g.days.length → j ≤ m + 1 → H2 (ra e) = some (.lst ((Ml e).map V.int)) ∧ ((Ml e).map V.int)[j]? = some (.int (rowF (Ml e) j)) := fun e j he hj => ⟨SH _ _ (k4 e he), by have := hMl e he; rw [List.getElem?_map, rowF_at (by omega)]; rfl⟩
      have hstep : WalkL ds g ls Fl Ml (k + 1) (m + 1) day = if wantN g m = 0 ∧ rungs (rowF Fl) (fun e => rowF (Ml e)) o (m + 1) = rungs (rowF Fl) (fun e => rowF (Ml e)) o m then WalkL ds g ls Fl Ml k m o
          else match picks ds g (rowF ls) (rowF Fl) (fun e => rowF (Ml e)) g.days.length o (m + 1) with
            | [] => []
            | (e, b, f) :: _ => ⟨e, b, f, m + 1⟩ :: WalkL ds g ls Fl Ml k f (some e) := by rw [ho]; rfl
      -- the rungs that are walked
      refine seq2 (fun σ' H' => ∃ (rr : Addr) (R : List Int), σ' = [some (.ref a), some (.ref yp), some (.ref t), some (.ref ta), some (.ref l), some v2, some (.ref ga), some (.ref fr), some (.ref mx), some (.ref D), some (natV o), some (.int ((m + 1 : Nat) : Int)), some (.ref rr), y13, y14] ∧ H' = H2 ∧ H2 rr = some (.lst (R.map V.int)) ∧ R.length = g.days.length + 1 ∧ (∀ j, rungs (rowF Fl) (fun e => rowF (Ml e)) o j = rowF R j) ∧ ∀ e, o = some e → rr = ra e ∧ R = Ml e) (fun σ' H' hP => ?_) (fun N hN => ?_)
      · obtain ⟨rr, R, rfl, rfl, hrr, hRl, hR, hRe⟩ := hP
        refine ifS_cut (fun H1 => H1 = H' ∧ wantN g m = 0 ∧ rowF R (m + 1) = rowF R m) (fun H1 => H1 = H' ∧ ¬ (wantN g m = 0 ∧ rowF R (m + 1) = rowF R m)) (fun H1 h => ?_) (fun H1 h => ?_) (fun NA NB hNA hNB => ?_)
        · obtain ⟨rfl, h⟩ := h
          walk_at "wp"
          refine ⟨m, k, o, _, _, _, xs, L, ⟨rfl, by omega, rfl, rfl, rfl⟩, SI, eD, hth, by omega, by omega, by omega, fun e he => (hoe e he).1, ?_⟩
          rw [← hW, hstep, if_pos (by rw [hR, hR]; exact h)]
        · obtain ⟨rfl, h⟩ := h
          have hpk := picks_ex (lights := rowF ls) hB (m := m) (by omega) hmix hoe (by rw [hR, hR]; exact h)
          obtain ⟨x, px, hpx⟩ := List.exists_cons_of_ne_nil hpk
          have hx12 : x.1 < g.days.length ∧ x.2.2 < m + 1 := by
            have hxm : x ∈ picks ds g (rowF ls) (rowF Fl) (fun e => rowF (Ml e)) g.days.length o (m + 1) := by rw [hpx]; exact List.mem_cons_self ..
            cases o with
            | none =>
              obtain ⟨z1, z2, z3⟩ := lastF_mem hxm
              exact ⟨z1, (lastD_mem z3).2.2.2.1⟩
            | some e =>
              have hxm : x ∈ lastD ds g (rowF ls) (fun e => rowF (Ml e)) g.days.length e (m + 1) := hxm
              have z := lastD_mem hxm
              exact ⟨by rw [z.1]; exact (hoe e rfl).1, z.2.2.2.1⟩
          refine seq1 (fun σ' H' => σ' = [some (.ref a), some (.ref yp), some (.ref t), some (.ref ta), some (.ref l), some v2, some (.ref ga), some (.ref fr), some (.ref mx), some (.ref D), some (.int (x.1 : Int)), some (.int ((m + 1 : Nat) : Int)), some (.ref rr), some (.int (x.2.1 : Int)), some (.int (x.2.2 : Int))] ∧ Same H1 H') (fun σ' H' hP => ?_) (fun N hN => ?_)
          · obtain ⟨rfl, SX⟩ := hP
            walk_at "wp"
            have eDX := SX _ _ eD
            refine ⟨tyL (SqL.of eDX), sz100 (by decide), fun p hp => ?_⟩
            have npD : p ≠ D := fun z => by rw [z, eDX] at hp; cases hp
            have SP := same_upd (o := .tup [V.int (x.1 : Int), V.int (x.2.1 : Int), V.int (x.2.2 : Int), V.int ((m + 1 : Nat) : Int)]) hp
            have eP : upd H' p (.tup [V.int (x.1 : Int), V.int (x.2.1 : Int), V.int (x.2.2 : Int), V.int ((m + 1 : Nat) : Int)]) p = some (.tup [V.int (x.1 : Int), V.int (x.2.1 : Int), V.int (x.2.2 : Int), V.int ((m + 1 : Nat) : Int)]) := upd_same
            generalize upd H' p (.tup [V.int (x.1 : Int), V.int (x.2.1 : Int), V.int (x.2.2 : Int), V.int ((m + 1 : Nat) : Int)]) = K3 at SP eP ⊢
            refine ⟨xs, SP _ _ eDX, sz100l (by omega), x.2.2, k, some x.1, _, _, _, xs ++ [V.ref p], L ++ [⟨x.1, x.2.1, x.2.2, m + 1⟩], ⟨rfl, rfl, rfl, rfl, rfl⟩, by rw [but_upd (List.mem_singleton.mpr rfl)]; exact SI.trans (but_mono (SX.trans SP)), upd_same, ?_, by omega, by rw [List.length_append]; show _ + 1 ≤ _; omega, by omega, fun e he => by cases he; exact hx12.1, ?_⟩
            · rw [List.map_append]
              have SU : Same (newBut H D D K3) (newBut H D D (upd K3 D (.lst (xs ++ [V.ref p])))) := newBut_mono fun b o h1 _ e => by rw [upd_ne h1]; exact e
              have hpH : H p = none := (SH.trans SX).free hp
              exact ((hth.same (newBut_mono fun b o _ _ e => (SX.trans SP) b o e)).same SU).append (.cons (.tup (SqT.of (SU _ _ (newBut_at hpH npD npD eP))) (.cons (.int _) (.cons (.int _) (.cons (.int _) (.cons (.int _) .nil))))) .nil)
            · rw [← hW, hstep, if_neg (by rw [hR, hR]; exact h), hpx, List.append_assoc]
              rfl
          · cases o with
            | none =>
              walk_at "wp"
              rw [if_pos (show decide (natV none = V.non) = true from rfl)]
              refine ⟨_, l, ta, Fl, ls, Ml, ds, g, m + 1, rfl, hL.same SH, hFl, hMl, SH.seq hl, c8.symm, hta.same SH, by omega, by omega, hpk, fun H5 tv x' L' S5 hx' htx => ?_⟩
              have ex : x' = x := by
                have : x' :: L' = x :: px := hx'.symm.trans hpx
                injection this
              subst ex
              cases htx with
              | tup q1 q2 =>
              cases q2 with
              | cons q3 q2 =>
              cases q2 with
              | cons q4 q2 =>
              cases q2 with
              | cons q5 q2 =>
              cases q2
              cases q3
              cases q4
              cases q5
              walk_at "wp"
              refine ⟨_, q1, rfl, ?_⟩
              walk_at "wp"
              exact hN _ _ ⟨rfl, S5⟩
            | some e =>
              have he := (hoe e rfl).1
              obtain ⟨rfl, rfl⟩ := hRe e rfl
              walk_at "wp"
              rw [if_neg (show ¬ decide (natV (some e) = V.non) = true by rw [decide_eq_false (fun h => nomatch h)]; decide), show natV (some e) = V.int (e : Int) from rfl]
              obtain ⟨tabs, ht1, ht2, ht3⟩ := hta
              obtain ⟨qt, acc, tq1, tq2, tq3⟩ := ht3 e he
              walk_at "wp"
              refine ⟨_, _, SqL.of (SH _ _ ht1), atI_nat tq1, ?_⟩
              refine ⟨ra e, l, qt, Ml e, ls, ds, g, acc, e, m + 1, rfl, SqL.of hrr, by omega, SH.seq hl, c8.symm, SqL.of (SH _ _ tq2), tq3.same SH, he, by omega, by omega, fun H5 p ys S5 hp ep hys hyl => ?_⟩
              have hpx' : lastR ds g (rowF ls) (rowF (Ml e)) e (m + 1) = x :: px := hpx
              rw [hpx'] at hys
              cases hys with
              | cons htx hys =>
              have htx := (htx.same (newBut_same _ _ _ _)).same (newOf_same _ _)
              cases htx with
              | tup q1 q2 =>
              cases q2 with
              | cons q3 q2 =>
              cases q2 with
              | cons q4 q2 =>
              cases q2 with
              | cons q5 q2 =>
              cases q2
              cases q3
              cases q4
              cases q5
              walk_at "wp"
              refine ⟨_, _, SqL.of ep, atI_nat (j := 0) rfl, ?_⟩
              rw [gTup_r]
              refine ⟨_, q1, rfl, ?_⟩
              walk_at "wp"
              exact hN _ _ ⟨rfl, S5⟩
        · walk_at "wp"
          have hdm : g.days[m]? = some g.days[m] := List.getElem?_eq_getElem (by omega)
          have ew : wantN g m = g.days[m].want := by unfold wantN; rw [hdm]
          refine ⟨_, _, SH.seq hgl, atI_nat (j := 0) hv, ?_⟩
          rw [show ((m + 1 : Nat) : Int) - 1 = (m : Int) by omega]
          refine ⟨_, g, _, m, rfl, hvg.same SH, hdm, ?_⟩
          dsimp only
          refine ⟨_, rfl, ?_⟩
          rw [← ew]
          by_cases hw : wantN g m = 0
          · rw [if_pos (decide_eq_true hw)]
            refine ⟨_, _, SqL.of hrr, atI_nat (j := m + 1) (v := .int (rowF R (m + 1))) (by rw [List.getElem?_map, rowF_at (by omega)]; rfl), _, _, SqL.of hrr, atI_nat (j := m) (v := .int (rowF R m)) (by rw [List.getElem?_map, rowF_at (by omega)]; rfl), rfl, ?_⟩
            by_cases he : rowF R (m + 1) = rowF R m
            · rw [if_pos (decide_eq_true (by rw [he]))]
              exact hNA _ ⟨rfl, hw, he⟩
            · rw [if_neg (fun z => he (V.int.inj (of_decide_eq_true z)))]
              exact hNB _ ⟨rfl, fun z => he z.2⟩
          · rw [if_neg (fun z => hw (of_decide_eq_true z))]
            exact hNB _ ⟨rfl, fun z => hw z.1⟩
      · walk_at "wp"
        cases day with
        | none =>
          rw [if_neg (show ¬ (!decide (natV none = V.non)) = true by decide), if_pos (show decide (natV none = V.non) = true from rfl)]
          subst ho
          exact hN _ _ ⟨fr, Fl, rfl, rfl, (hFm 0 (by omega)).1, hFl, fun j => rfl, fun e he => by cases he⟩
        | some e =>
          have he := hday e rfl
          rw [if_pos (show (!decide (natV (some e) = V.non)) = true by rw [decide_eq_false (fun h => nomatch h)]; rfl), show natV (some e) = V.int (e : Int) from rfl]
          have hdd : ds[e]? = some ds[e] := List.getElem?_eq_getElem (by omega)
          have emi : mixF ds e = ds[e].mix := by
            unfold mixF
            rw [dghAt_of hdd]
          obtain ⟨v', hv', hvd⟩ := hya.get' (i := e) (d := dghD ds[e]) (by rw [List.getElem?_map, hdd]; rfl)
          obtain ⟨td, rfl, htd⟩ := hvd.dgh
          rw [← emi] at htd
          walk_at "wp"
          refine ⟨_, _, SqL.of (SH _ _ k3), atI_nat (j := e) (by rw [List.getElem?_map, List.getElem?_range he]; rfl), ?_⟩
          walk_at "wp"
          refine ⟨_, _, SqL.of (hMm e (m + 1) he (Nat.le_refl _)).1, atI_nat (hMm e (m + 1) he (Nat.le_refl _)).2, ?_⟩
          refine ⟨_, _, SqL.of (hFm (m + 1) (Nat.le_refl _)).1, atI_nat (hFm (m + 1) (Nat.le_refl _)).2, ?_⟩
          refine ⟨_, _, SH.seq hys, atI_nat hv', ?_⟩
          walk_at "wp"
          refine ⟨_, _, Same.tup SH htd, atI_nat (j := 0) rfl, ?_⟩
          walk_at "wp"
          by_cases hc : rowF (Ml e) (m + 1) = rowF Fl (m + 1) + mixF ds e
          · rw [if_pos (decide_eq_true hc)]
            have ho' : o = none := by rw [ho]; exact if_pos hc
            subst ho'
            exact hN _ _ ⟨fr, Fl, rfl, rfl, (hFm 0 (by omega)).1, hFl, fun j => rfl, fun e he => by cases he⟩
          · rw [if_neg (fun z => hc (of_decide_eq_true z))]
            have ho' : o = some e := by rw [ho]; exact if_neg hc
            subst ho'
            refine ⟨_, _, SqL.of (SH _ _ k3), atI_nat (j := e) (by rw [List.getElem?_map, List.getElem?_range he]; rfl), ?_⟩
            exact hN _ _ ⟨ra e, Ml e, rfl, rfl, SH _ _ (k4 e he), hMl e he, fun j => rfl, fun e' he' => by cases he'; exact ⟨rfl, rfl⟩⟩
    · have hm0 : m = 0 := by omega
      subst hm0
      rw [if_neg (fun z => by have := of_decide_eq_true z; omega)]
      walk_at "wp"
      have hW : L ++ walkD ds g (rowF ls) (rowF Fl) (fun e => rowF (Ml e)) g.days.length k 0 day = _ := hW
      rw [walkD_zero, List.append_nil] at hW
      refine q _ D xs SH hD eD ?_
      rw [← hW]
      exact hth
end
end Bk


namespace Bk
open PySem PySem.Spec PyProof.Rows L2
local macro_rules | `(tactic| walk_at "wp") => `(tactic| try simp only [rMinN_r, tCKw, iZip3_eq, rZip3_r, iRng3_eq, rRng3_i, rNeN_r, tAugS, rIsDX_list, tScT2, rSetL_r, rSetOf2_r, rSorDT_r, rSetD, tDGet2, tDGet, tDNewT, cxW, rExtend_r, rSortU_r, rSetOf_r, rSortedSet_r, rNinr_r, rNeN_r, rCatL_r, rSlT_r, rListOf_r, rIsB_b, rNotB_b, tFmtO, tJs, tOst, tCallS, WE, tRaise2, rOne_i, rSorD_r, tDNewK, Int.zero_add, tNever, tFor_eq, tLc_eq, iList, iTup, iRng1_eq, rRng1_i, iRng2_eq, rRng2_i, iEnum_eq, rEnum_r, iZip_eq, rZip_r, tSl, tPart, tNoPart, rSlL_r, rCat_r, rIn_r, rNin_r, rRepr_r, iRevR, rMin_r, rShr_i, rOdd_i, rSetL_r, gSub, rRg1_i, rRg2_i, rInr_r, tAug, ipI_ii, tLstRg, tRg1, tRg2, gTup_r, gUnl_r, rInt1_b, rInt1_i, rRep_r, tStep_r, scal, tSeq, tNext, tAsg, tRet, tRetN, tIfS, tDrop, tCB, tCons, tNil, tVar, tOp, tUn, tC, rU_i, rI_ii, rI0_ii, rEq, rNe, tTest, tB, tAnd, tOr, tNot, tAndV, tOrV, tNotV, tIf, tChain, tLst, tTup, tBM, tBM0, rAppend_r, rIxL_r, rIxT_r, rMx_ii, rMn_ii, rLnL_r, rLnT_r, rIsD_int, rIsD_bool, rIsD_list, rIsD_tuple, tCall, gName, gNil_n, gCons_c, cxK, L2.start, List.map, List.replicate, List.length_cons, List.length_nil, List.cons_append, List.nil_append, List.append_nil, List.getElem?_cons_zero, List.getElem?_cons_succ, Option.some.injEq, exists_eq_left', exists_eq_left, V.int.injEq, V.bl.injEq, V.str.injEq, V.ref.injEq, List.cons.injEq, and_true, true_and, and_self, List.set, wipe, rAll_r, rSum_r, reduceCtorEq, decide_true, decide_false, reduceIte, ite_true, ite_false, if_true, if_false, Bool.false_eq_true, Bool.not_true, Bool.not_false])
local macro_rules | `(tactic| walk_at "shaped") => `(tactic| (simp only [rMinN_r, tCKw, iZip3_eq, rZip3_r, iRng3_eq, rRng3_i, rNeN_r, tAugS, rIsDX_list, SeqAt.shaped, PyData.canLay0, PyData.canLayAll0, PyData.depth, PyData.depthAll]; rfl))
local macro_rules | `(tactic| walk_at "lay") => `(tactic| (simp only [rMinN_r, tCKw, iZip3_eq, rZip3_r, iRng3_eq, rRng3_i, rNeN_r, tAugS, rIsDX_list, PyData.canLay0, PyData.canLayAll0]; rfl))
local macro_rules | `(tactic| walk_at "wg") => `(tactic| try simp only [gName, gTup_r, gCons_c, gNil_n, cxK, List.set, List.cons.injEq, and_true, true_and, exists_eq_left', exists_eq_left, List.length_cons, List.length_nil])
section
variable {P : Program} {w : World} {K : PySem.W.Frag} {mg : Str → Option Value} {base : Heap}
abbrev s_cheapest_doughs : Stmt := top 67
theorem sc_cheapest_doughs : FnScope ["bakery", "doughs", "lights", "bound", "goods", "tables", "ladder", "days", "life", "plan", "mixed", "baked", "first", "behind", "rows", "day", "oven", "good", "given", "many"] ["bakery", "doughs"] (defScope s_cheapest_doughs) := ⟨rfl, rfl, rfl, by decide +kernel, rfl, by decide +kernel, by decide +kernel⟩
theorem WOk.mem {ds : List Dgh} {g : Good} {n m : Nat} {W : List Stp} (h : WOk ds g n m W) : ∀ s ∈ W, s.e ≤ s.b ∧ s.b < n ∧ s.f < s.m ∧ s.m ≤ m := by
  induction h with
  | nil _ => exact fun s hs => nomatch hs
  | cons a b c d e f t ih =>
    intro s hs
    rcases List.mem_cons.mp hs with rfl | hs
    · exact ⟨d, e, c, a⟩
    · obtain ⟨h1, h2, h3, h4⟩ := ih s hs
      exact ⟨h1, h2, h3, by omega⟩
theorem planV_get {g : Good} {H : Hp} {D : Addr} {rs : List Addr} {es : List (Nat × Nat)} (h : planV g H D rs es) : ∀ {k : Nat} {r : Addr}, rs[k]? = some r → ∃ e, es[k]? = some e ∧ H r = some (.tup [.int (e.1 : Int), .int 0, .int (e.2 : Int), .int (wantN g e.2)]) := by
  unfold planV at h
  induction h with
  | nil => intro k r z; cases z
  | @cons r0 e0 rs es z t ih =>
    intro k r hk
    cases k with
    | zero => cases hk; exact ⟨e0, rfl, z.2⟩
    | succ k => exact ih hk
theorem rows_zip {K : PySem.W.Frag} {H : Hp} : ∀ {xs : List V} {L : List Row4}, ThAll K H xs (L.map rowD) → ∃ zs : List (V × Row4), zs.map Prod.fst = xs ∧ zs.map Prod.snd = L ∧ ∀ z ∈ zs, Th K H z.1 (rowD z.2)
  | [], [], _ => ⟨[], rfl, rfl, fun z hz => nomatch hz⟩
  | x :: xs, r :: L, .cons h t => by
    obtain ⟨zs, h1, h2, h3⟩ := rows_zip t
    refine ⟨(x, r) :: zs, by rw [List.map_cons, h1], by rw [List.map_cons, h2], fun z hz => ?_⟩
    rcases List.mem_cons.mp hz with rfl | hz
    · exact h
    · exact h3 z hz
theorem rows_all {K : PySem.W.Frag} {H : Hp} : ∀ {zs : List (V × Row4)}, (∀ z ∈ zs, Th K H z.1 (rowD z.2)) → ThAll K H (zs.map Prod.fst) ((zs.map Prod.snd).map rowD)
  | [], _ => .nil
  | z :: zs, h => .cons (h z List.mem_cons_self) (rows_all fun y hy => h y (List.mem_cons_of_mem _ hy))
theorem walkD_len {ds : List Dgh} {g : Good} {lights F : Nat → Int} {M : Nat → Nat → Int} {n : Nat} : ∀ (k m : Nat) (o : Option Nat), (walkD ds g lights F M n k m o).length ≤ k := by
  intro k
  induction k with
  | zero => exact fun m o => Nat.le_refl _
  | succ k ih =>
    intro m o
    cases m with
    | zero => exact Nat.zero_le _
    | succ m =>
      unfold walkD
      split
      · exact Nat.le_succ_of_le (ih _ _)
      · split
        · exact Nat.zero_le _
        · exact Nat.succ_le_succ (ih _ _)
def rowI4 (r : Row4) : List Int := [(r.a : Int), (r.b : Int), (r.c : Int), r.m]
/-- a cheapest plan and its ladder, as they are told -/
structure ChpD (K : PySem.W.Frag) (H : Hp) (pl ld : V) (ls : List Int) (g : Good) (ds : List Dgh) (L : List Row4) (Fl : List Int) (Ml : Nat → List Int) : Prop where
  plan : Th K H pl (planD L)
  perm : L.Perm (planW g (WalkL ds g ls Fl Ml g.days.length g.days.length none))
  sort : L.Pairwise fun x y => TS.code 1000000001 (rowI4 x) ≤ TS.code 1000000001 (rowI4 y)
  lad : LadD H ld g.days.length Fl Ml
  lenF : Fl.length = g.days.length + 1
  lenM : ∀ e, e < g.days.length → (Ml e).length = g.days.length + 1
  bld : Bld ds g (rowF ls) g.days.length (rowF Fl) (fun e => rowF (Ml e)) g.days.length
  own : ∃ (p : Addr) (ys : List V), pl = .ref p ∧ H p = some (.lst ys) ∧ ThAll K (but [p] H) ys (L.map rowD) ∧ LadD (but [p] H) ld g.days.length Fl Ml
def spCheapD (K : PySem.W.Frag) : Sp := fun vs H Q _ => ∃ (x y : V) (ls : List Int) (g : Good) (ds : List Dgh), vs = [x, y] ∧ Th K H x (bakD ⟨ls, none, [g]⟩) ∧ bakB (bakD ⟨ls, none, [g]⟩) = true ∧ Th K H y (doughsD ds) ∧ ds.length = ls.length ∧ (∀ d ∈ ds, dghB (dghD d) = true) ∧ ls.length ≤ 12 ∧
  ∀ (H' : Hp) (t : Addr) (pl lad : V) (L : List Row4) (Fl : List Int) (Ml : Nat → List Int), Same H H' → H' t = some (.tup [pl, lad]) → ChpD K (newOf H H') pl lad ls g ds L Fl Ml → Q (.ref t) H'
theorem ok_cheapest_doughs {f : Addr} {fd : FuncData} {t1 : Tok} (F : Fun K "cheapest_doughs" "cheapest_doughs" s_cheapest_doughs f fd) (B : Bi mg) (Bs : mg "sorted" = none) (M_MOST_MIXED : mg "MOST_MIXED" = some (.int 12 t1)) (D_look_at_doughs : Def P w K mg base "look_at_doughs" 9 ["bakery", "thing"] (spLookD K)) (D_dough_table : Def P w K mg base "dough_table" 5 ["good", "doughs", "mixed"] (spDTab K)) (D_built : Def P w K mg base "built" 3 ["bakery", "doughs", "tables"] (spBuilt K)) (D_walked_back : Def P w K mg base "walked_back" 4 ["bakery", "doughs", "ladder", "tables"] (spWalked K)) (D_stretch_rows : Def P w K mg base "stretch_rows" 1 ["days", "baked", "first", "behind"] (spSrows K)) : FnOk P w K mg base CX0 10 f fd ["bakery", "doughs"] (spCheapD K) := by
  refine F.ok sc_cheapest_doughs (fun vs H Q E h => ?_) (fun cdv A outer s H vs Q E hr h => ?_)
  · obtain ⟨_, _, _, _, _, rfl, _⟩ := h
    rfl
  · obtain ⟨x, y, ls, g, ds, rfl, hx, hb, hy, hdl, hds, hn12, q⟩ := h
    refine ⟨_, (pss_cons (ps_expr (pe_callD D_look_at_doughs hr (by rfl) (pa_cons (pv 0) (pa_cons (pv 1) pa_nil))))
 (pss_cons (ps_asg (pv 0) (pg_tup rfl (pgs_cons (pg_name (i := 2) sc_cheapest_doughs.nd rfl (Or.inl rfl)) (pgs_cons (pg_name (i := 3) sc_cheapest_doughs.nd rfl (Or.inl rfl)) (pgs_cons (pg_name (i := 4) sc_cheapest_doughs.nd rfl (Or.inr rfl)) pgs_nil)))))
 (pss_cons (ps_if (pt_cmpR op_gt (pe_callB call_lnL (by rfl) B.len (by decide +kernel) (pa_cons (pv 2) pa_nil)) (pe_globI rfl M_MOST_MIXED) (nomark _)) (pss_one ps_never) pss_nil)
 (pss_cons (ps_setLc (i := 5) (own := [("day", 15)]) (g := (gName 15)) (te := (tCall _ _ _ (tCons (tOp (rIxL K) _ _) (tCons _ (tCons _ tNil))))) rfl sc_cheapest_doughs.nd rfl rfl (sw_true rfl rfl rfl (by decide +kernel)) (pi_range1 (by rfl) B.range (pa_cons (pe_callB call_lnL (by rfl) B.len (by decide +kernel) (pa_cons (pv 2) pa_nil)) pa_nil)) (blkOk_by (own := [("day", 15)]) (N := ["bakery", "doughs", "lights", "bound", "goods", "tables", "ladder", "days", "life", "plan", "mixed", "baked", "first", "behind", "rows", "day", "oven", "good", "given", "many"]) (sc := defScope s_cheapest_doughs) (by decide +kernel)) (fun _ _ _ _ _ => (pg_name (i := 15) sc_cheapest_doughs.nd rfl (Or.inl rfl))) (fun _ _ _ _ _ => pts_nil) (fun _ _ _ _ _ => (pe_callD D_dough_table hr (by rfl) (pa_cons (pe_ix ix_list (pv 4) pe_int (fun _ _ => rfl)) (pa_cons (pv 1) (pa_cons (pv 15) pa_nil))))))
 (pss_cons (ps_set (i := 6) sc_cheapest_doughs.nd rfl (Or.inl rfl) (pe_callD D_built hr (by rfl) (pa_cons (pv 0) (pa_cons (pv 1) (pa_cons (pv 5) pa_nil)))))
 (pss_cons (ps_asg (pe_ix ix_list (pv 4) pe_int (fun _ _ => rfl)) (pg_tup rfl (pgs_cons (pg_name (i := 7) sc_cheapest_doughs.nd rfl (Or.inl rfl)) (pgs_cons (pg_name (i := 8) sc_cheapest_doughs.nd rfl (Or.inl rfl)) pgs_nil))))
 (pss_cons (ps_set (i := 9) sc_cheapest_doughs.nd rfl (Or.inl rfl) (pe_lst pa_nil))
 (pss_cons (ps_for PassesOwn.never rfl (pi_list (pe_callD D_walked_back hr (by rfl) (pa_cons (pv 0) (pa_cons (pv 1) (pa_cons (pv 6) (pa_cons (pv 5) pa_nil)))))) (pg_tup rfl (pgs_cons (pg_name (i := 10) sc_cheapest_doughs.nd rfl (Or.inr rfl)) (pgs_cons (pg_name (i := 11) sc_cheapest_doughs.nd rfl (Or.inr rfl)) (pgs_cons (pg_name (i := 12) sc_cheapest_doughs.nd rfl (Or.inl rfl)) (pgs_cons (pg_name (i := 13) sc_cheapest_doughs.nd rfl (Or.inl rfl)) pgs_nil))))) (pss_cons (ps_set (i := 14) sc_cheapest_doughs.nd rfl (Or.inl rfl) (pe_callD D_stretch_rows hr (by rfl) (pa_cons (pv 7) (pa_cons (pv 11) (pa_cons (pv 12) (pa_cons (pv 13) pa_nil))))))
 (pss_one (ps_expr (pe_bm PySem.F.plainAttrs_list PySem.F.slot_list_extend PySem.F.type_list_extend mt_extend (pv 9) (pa_cons (pe_lc (own := [("oven", 16), ("good", 17), ("given", 18), ("many", 19)]) (g := (gTup K 4 (gCons (gName 16) (gCons (gName 17) (gCons (gName 18) (gCons (gName 19) gNil)))))) rfl sc_cheapest_doughs.nd (pi_list (pv 14)) (blkOk_by (own := [("oven", 16), ("good", 17), ("given", 18), ("many", 19)]) (N := ["bakery", "doughs", "lights", "bound", "goods", "tables", "ladder", "days", "life", "plan", "mixed", "baked", "first", "behind", "rows", "day", "oven", "good", "given", "many"]) (sc := defScope s_cheapest_doughs) (by decide +kernel)) (fun _ _ _ _ _ => (pg_tup rfl (pgs_cons (pg_name (i := 16) sc_cheapest_doughs.nd rfl (Or.inl rfl)) (pgs_cons (pg_name (i := 17) sc_cheapest_doughs.nd rfl (Or.inl rfl)) (pgs_cons (pg_name (i := 18) sc_cheapest_doughs.nd rfl (Or.inl rfl)) (pgs_cons (pg_name (i := 19) sc_cheapest_doughs.nd rfl (Or.inl rfl)) pgs_nil)))))) (fun _ _ _ _ _ => pts_nil) (fun _ _ _ _ _ => (pe_tup (pa_cons (pv 10) (pa_cons (pv 11) (pa_cons (pv 18) (pa_cons (pv 19) pa_nil))))))) pa_nil))))))
 (pss_one (ps_ret (pe_tup (pa_cons (pe_callB (cr_sortT (d := 4) (B := 1000000001) (by decide)) (by rfl) Bs (by decide +kernel) (pa_cons (pv 9) pa_nil)) (pa_cons (pv 6) pa_nil))))))))))))), ?_⟩
    obtain ⟨⟨c1, c2⟩, c3, _, _, c7⟩ := bak_parts hb
    obtain ⟨c8, c9, hok⟩ := c7 g (List.mem_singleton.mpr rfl)
    dsimp only at c1 c2 c3 c8
    have hx0 := hx
    obtain ⟨a, l, v2, ga, xl, xg, rfl, ht, hl, hla, h2, hgl, hga⟩ := Th.bak hx
    obtain ⟨vg, hv, hvg⟩ := hga.get' (i := 0) (d := goodD g) rfl
    obtain rfl : xl = ls.map V.int := hla.intsV
    have hvg0 := hvg
    obtain ⟨tg, ad, xs, rfl, htg, hsg, hag⟩ := hvg.good
    walk_at "wp"
    refine ⟨_, ls, g, y, ds, rfl, hx0, hb, hy, hdl, hds, fun H1 S1 => ?_⟩
    walk_at "wp"
    refine ⟨_, Same.tup S1 ht, rfl, ?_⟩
    walk_at "wp"
    refine ⟨_, S1.seq hl, ?_⟩
    rw [List.length_map, if_neg (fun z => by have := of_decide_eq_true z; omega)]
    refine ⟨_, S1.seq hl, ?_⟩
    rw [List.length_map]
    refine ⟨by omega, by omega, fun D hD => ?_⟩
    rw [show (ls.length : Int).toNat = ls.length by omega]
    refine LcR.by walk_range (fun i H' => Same H1 H' ∧ ∃ xs : List V, H' D = some (.lst xs) ∧ xs.length = i ∧ ∀ e, e < i → ∃ q acc, xs[e]? = some (.ref q) ∧ q ≠ D ∧ H' q = some (.lst acc) ∧ DTab ds g e (but [D] H') acc) ⟨same_upd hD, [], upd_same, rfl, fun e he => by omega⟩ (fun _ _ _ _ => trivial) (fun i v K0 K1 hi hI yy => ?_) (fun H2 hI => ?_)
    · obtain ⟨rfl, rfl⟩ := yy
      obtain ⟨SI, xs, eD, hxl, hq⟩ := hI
      dsimp only
      rw [Int.zero_add]
      walk_at "wp"
      refine ⟨_, _, (S1.trans SI).seq hgl, atI_nat (j := 0) hv, ?_⟩
      refine ⟨_, g, y, ds, i, rfl, hvg0.same (S1.trans SI), hok, by omega, hy.same (S1.trans SI), by omega, by omega, fun H4 p acc S4 hp ep hdt => ?_⟩
      have npD : p ≠ D := fun z => by rw [z, eD] at hp; cases hp
      have eD4 := S4 _ _ eD
      have hdtD : DTab ds g i (but [D] H4) acc := by
        refine ⟨hdt.1, fun j hj => ?_⟩
        obtain ⟨qq, a1, a2⟩ := hdt.2 j hj
        refine ⟨qq, a1, but_at (fun z => ?_) a2⟩
        rw [List.mem_singleton.mp z, eD4] at a2
        have := congrArg List.length (HO.lst.inj (Option.some.inj a2))
        rw [List.length_map, List.length_range] at this
        omega
      refine ⟨xs, eD4, sz100l (by omega), same_mut (SI.trans S4) hD, xs ++ [V.ref p], upd_same, by rw [List.length_append, hxl]; rfl, fun e he => ?_⟩
      rw [but_upd (List.mem_singleton.mpr rfl)]
      by_cases hei : e < i
      · obtain ⟨qq, ac, a1, a2, a3, a4⟩ := hq e hei
        exact ⟨qq, ac, by rw [List.getElem?_append_left (by omega)]; exact a1, a2, by rw [upd_ne a2]; exact S4 _ _ a3, a4.same (but_mono S4)⟩
      · have ei : e = i := by omega
        subst ei
        exact ⟨p, acc, by rw [List.getElem?_append_right (by omega), hxl, Nat.sub_self]; rfl, npD, by rw [upd_ne npD]; exact ep, hdtD⟩
    · obtain ⟨SI, xs, eD, hxl, hq⟩ := hI
      have S12 := S1.trans SI
      have hTab : Tabs ds g ls.length H2 D := ⟨xs, eD, hxl, fun e he => by obtain ⟨qq, ac, a1, _, a3, a4⟩ := hq e he; exact ⟨qq, ac, a1, a3, a4.same (but_same _ _)⟩⟩
      have hmix : ∀ b, 0 ≤ mixF ds b := fun b => by
        unfold mixF dghAt
        rw [List.getD_eq_getElem?_getD]
        cases e : ds[b]? with
        | none => exact Int.le_refl _
        | some d =>
          have := hds d (List.mem_of_getElem? e)
          simp only [dghB, dghD, numD, Bool.and_eq_true, decide_eq_true_eq] at this
          exact this.1.1.1
      have nn : ∀ b, 0 ≤ rowF ls b := rowF_nonneg fun z hz => by
        have := c3 z hz
        simp only [numD, Bool.and_eq_true, decide_eq_true_eq] at this
        exact this.1
      walk_at "wp"
      refine ⟨_, y, D, ls, g, ds, rfl, hx0.same S12, hb, hy.same S12, hdl, hTab, fun H3 lad Fl Ml S3 hL hFl hMl hB => ?_⟩
      have S13 := S12.trans S3
      rw [← c8] at hL hFl hMl hB
      obtain ⟨W, hWd⟩ : ∃ W, W = WalkL ds g ls Fl Ml g.days.length g.days.length none := ⟨_, rfl⟩
      have hWok : WOk ds g g.days.length g.days.length W := by
        rw [hWd]
        exact (walk_ok hB hmix nn _ _ none (Nat.le_refl _) (Nat.le_refl _) (fun e he => by cases he)).1
      have hWl : W.length ≤ 12 := by
        have := walkD_len (ds := ds) (g := g) (lights := rowF ls) (F := rowF Fl) (M := fun e => rowF (Ml e)) (n := g.days.length) g.days.length g.days.length none
        rw [hWd]
        exact Nat.le_trans this (by omega)
      have hWm := hWok.mem
      have hWr := hWok.rows
      walk_at "wp"
      refine ⟨_, _, S13.seq hgl, atI_nat (j := 0) hv, ?_⟩
      walk_at "wp"
      refine ⟨_, Same.tup S13 htg, rfl, ?_⟩
      walk_at "wp"
      refine ⟨Nat.zero_le _, fun D2 hD2 => ?_⟩
      obtain ⟨H4, eH4, S4, E4⟩ := alloc (.lst []) hD2
      rw [eH4]
      have S14 := S13.trans S4
      refine ⟨_, y, lad, D, Fl, ls, Ml, ds, g, rfl, hx0.same S14, hb, hy.same S14, by omega, hmix, (hL.lad.same (newOf_same _ _)).same S4, hFl, hMl, by rw [c8]; exact hTab.same (S3.trans S4), hB, fun H5 p ws S5 hp ep hws => ?_⟩
      rw [← hWd] at hws
      walk_at "wp"
      refine ⟨⟨_, SqL.of ep⟩, ?_⟩
      have npD2 : p ≠ D2 := fun z => by rw [z, E4] at hp; cases hp
      have wsE : ThAll K (but [D2] H5) ws (W.map st4D) := hws.same fun b o e => by
        have e1 := newBut_same _ _ _ _ _ _ e
        refine but_at (fun z => ?_) (newOf_same _ _ _ _ e1)
        rw [List.mem_singleton.mp z] at e1
        unfold newOf at e1
        rw [E4] at e1
        exact nomatch e1
      have wl := wsE.length
      rw [List.length_map] at wl
      have S15 := S14.trans S5
      have nD2 : ∀ {b : Addr} {o : HO}, H b = some o → b ∉ [D2] := fun eb z => by rw [List.mem_singleton.mp z, S13.free hD2] at eb; cases eb
      have SB : Same H (but [D2] H5) := fun b o eb => but_at (nD2 eb) (S15 _ _ eb)
      refine LoopR.by (walk_list (xs := ws)) (fun i σ H' => ∃ (y10 y11 y12 y13 y14 : Option V) (ys : List V), σ = [some (.ref a), some y, some (.ref l), some v2, some (.ref ga), some (.ref D), some lad, some (.ref ad), some (optV g.life), some (.ref D2), y10, y11, y12, y13, y14, none, none, none, none, none] ∧ Same (but [D2] H5) (but [D2] H') ∧ H' D2 = some (.lst ys) ∧ ThAll K (newBut H D2 D2 H') ys ((planW g (W.take i)).map rowD) ∧ ys.length ≤ 12 * i) ⟨none, none, none, none, none, [], rfl, Same.refl _, S5 _ _ E4, .nil, Nat.zero_le _⟩ (fun i σ H' _ hI => ?_) (fun i v σ K0 K1 hi hI yy => ?_) (fun σ H6 hI => ?_)
      · obtain ⟨_, _, _, _, _, _, _, SJ, _⟩ := hI
        exact SqL.of (but_is (SJ _ _ (but_at (fun z => npD2 (List.mem_singleton.mp z)) ep))).2
      · obtain ⟨rfl, hv1⟩ := yy
        obtain ⟨y10, y11, y12, y13, y14, ys, rfl, SJ, eD2, hth, hyl⟩ := hI
        obtain ⟨s, hs⟩ : ∃ s, W[i]? = some s := ⟨_, List.getElem?_eq_getElem (by omega)⟩
        obtain ⟨q1, q2, q3, q4⟩ := hWm s (List.mem_of_getElem? hs)
        obtain ⟨v', hv', hvt⟩ := wsE.get' (i := i) (d := st4D s) (by rw [List.getElem?_map, hs]; rfl)
        rw [hv'] at hv1
        cases hv1
        have SJ1 := SJ.trans (but_same _ _)
        have SH := SB.trans SJ1
        cases hvt with
        | tup t1 t2 =>
        cases t2 with
        | cons t3 t2 =>
        cases t2 with
        | cons t4 t2 =>
        cases t2 with
        | cons t5 t2 =>
        cases t2 with
        | cons t6 t2 =>
        cases t2
        cases t3
        cases t4
        cases t5
        cases t6
        rw [gTup_r]
        refine ⟨_, Same.tup SJ1 t1, rfl, ?_⟩
        walk_at "wp"
        refine ⟨_, g, s.b, s.f, s.m, rfl, .lst (SH.seq hsg) (hag.same SH), hok, by omega, q4, by omega, fun G1 p6 rs T1 hp6 ep6 hpl hnew => ?_⟩
        walk_at "wp"
        have eD2' := T1 _ _ eD2
        refine ⟨tyL (SqL.of eD2'), ⟨_, SqL.of ep6⟩, fun D3 hD3 => ?_⟩
        have hrl := hpl.length
        have hsl := strE_len g s.b s.f s.m
        refine LcR.by (walk_list (xs := rs.map V.ref)) (fun k H' => Same G1 H' ∧ ∃ zs : List V, H' D3 = some (.lst zs) ∧ zs.length = k ∧ ThAll K (newBut G1 D3 D3 H') zs ((((strE g s.b s.f s.m).take k).map (rowW g s.e)).map rowD)) ⟨same_upd hD3, [], upd_same, rfl, .nil⟩ (fun _ _ _ h => SqL.of (h.1 _ _ ep6)) (fun k v K0 K1 hk hI yy => ?_) (fun G2 hI => ?_)
        · obtain ⟨rfl, hv2⟩ := yy
          obtain ⟨TI, zs, eD3, hzl, hzt⟩ := hI
          rw [List.getElem?_map] at hv2
          obtain ⟨r, hr2, rfl⟩ := Option.map_eq_some_iff.mp hv2
          obtain ⟨e', he', hre⟩ := planV_get hpl hr2
          walk_at "wp"
          refine ⟨_, SqT.of (TI _ _ hre), rfl, ?_⟩
          walk_at "wp"
          refine ⟨sz100 (by decide), fun pt hpt => ?_⟩
          have nt3 : pt ≠ D3 := fun z => by rw [z, eD3] at hpt; cases hpt
          have TP := same_upd (o := .tup [V.int (s.e : Int), V.int (s.b : Int), V.int (e'.2 : Int), V.int (wantN g e'.2)]) hpt
          have ePt : upd K1 pt (.tup [V.int (s.e : Int), V.int (s.b : Int), V.int (e'.2 : Int), V.int (wantN g e'.2)]) pt = some (.tup [V.int (s.e : Int), V.int (s.b : Int), V.int (e'.2 : Int), V.int (wantN g e'.2)]) := upd_same
          generalize upd K1 pt (.tup [V.int (s.e : Int), V.int (s.b : Int), V.int (e'.2 : Int), V.int (wantN g e'.2)]) = K2 at TP ePt ⊢
          have hk40 : k < 1000 := by rw [List.length_map] at hk; omega
          refine ⟨zs, TP _ _ eD3, sz100l (by omega), same_mut (TI.trans TP) hD3, zs ++ [V.ref pt], upd_same, by rw [List.length_append, hzl]; rfl, ?_⟩
          have eb : e'.1 = s.b := by
            have := List.mem_of_getElem? he'
            unfold strE at this
            obtain ⟨j, _, rfl⟩ := List.mem_map.mp this
            rfl
          rw [List.take_add_one, he', List.map_append, List.map_append]
          have SU : Same (newBut G1 D3 D3 K2) (newBut G1 D3 D3 (upd K2 D3 (.lst (zs ++ [V.ref pt])))) := newBut_mono fun b o h1 _ e => by rw [upd_ne h1]; exact e
          refine ((hzt.same (newBut_mono fun b o _ _ e => TP b o e)).same SU).append (.cons ?_ .nil)
          show Th K _ (V.ref pt) (rowD (rowW g s.e e'))
          unfold rowW rowD
          rw [eb]
          exact .tup (SqT.of (SU _ _ (newBut_at (TI.free hpt) nt3 nt3 ePt))) (.cons (.int _) (.cons (.int _) (.cons (.int _) (.cons (.int _) .nil))))
        · obtain ⟨TI, zs, eD3, hzl, hzt⟩ := hI
          walk_at "wp"
          have eD2'' := TI _ _ eD2'
          rw [List.take_of_length_le (by rw [List.length_map, hrl]; exact Nat.le_refl _)] at hzt
          rw [List.length_map] at hzl
          refine ⟨ys, zs, eD2'', eD3, sz100 (by omega), _, _, _, _, _, ys ++ zs, ⟨rfl, rfl, rfl, rfl, rfl⟩, by rw [but_upd (List.mem_singleton.mpr rfl)]; exact SJ.trans (but_mono (T1.trans TI)), upd_same, ?_, by rw [List.length_append]; omega⟩
          have eW : planW g (W.take (i + 1)) = planW g (W.take i) ++ rowsS g s := by
            unfold planW
            rw [List.take_add_one, hs, List.flatMap_append]
            congr 1
            simp
          rw [eW, List.map_append]
          have SU : Same (newBut H D2 D2 G2) (newBut H D2 D2 (upd G2 D2 (.lst (ys ++ zs)))) := newBut_mono fun b o h1 _ e => by rw [upd_ne h1]; exact e
          refine ((hth.same (newBut_mono fun b o _ _ e => (T1.trans TI) b o e)).same SU).append (hzt.same fun b o e => ?_)
          obtain ⟨e0, e1⟩ := newOf_is (newBut_same _ _ _ _ _ _ e)
          have nb : b ≠ D2 := fun z => by rw [z, eD2'] at e0; cases e0
          exact newBut_at ((SH.trans T1).free e0) nb nb (by rw [upd_ne nb]; exact e1)
      · obtain ⟨y10, y11, y12, y13, y14, ys, rfl, SJ, eD2, hth, hyl⟩ := hI
        walk_at "wp"
        rw [List.take_of_length_le (by omega)] at hth
        have SJ1 := SJ.trans (but_same [D2] H6)
        have hth6 := (hth.same (newBut_same _ _ _ _)).same (newOf_same _ _)
        have hyl2 := hth6.length
        rw [List.length_map] at hyl2
        obtain ⟨zs, z1, z2, z3n⟩ := rows_zip (hth.same (newBut_same _ _ _ _))
        have z3 : ∀ z ∈ zs, Th K H6 z.1 (rowD z.2) := fun z hz => (z3n z hz).same (newOf_same _ _)
        have bd : ∀ r, r ∈ planW g W → TS.Bd 1000000001 (rowI4 r) := fun r hr => by
          obtain ⟨h1, h2, h3, _, _, h4, _⟩ := hWr.1 r hr
          have hw : 0 ≤ r.m ∧ r.m ≤ 1000000000 := by
            rw [h4]
            unfold wantN
            rw [List.getElem?_eq_getElem (show r.c < g.days.length by omega)]
            have := hok _ (List.getElem_mem (show r.c < g.days.length by omega))
            simp only [dayD, dayB, numD, Bool.and_eq_true, decide_eq_true_eq] at this
            exact this.1.1.1
          intro y hy
          simp only [rowI4, List.mem_cons, List.not_mem_nil, or_false] at hy
          rcases hy with rfl | rfl | rfl | rfl <;> omega
        have tup : ∀ {G : Hp} {v : V} {r : Row4}, Th K G v (rowD r) → TupI K G v (rowI4 r) := fun h => by
          obtain ⟨t, rfl, ht⟩ := h.row
          exact ⟨t, rfl, ht⟩
        refine ⟨_, SqL.of eD2, by have := hWr.2.2; omega, fun v hv => ?_, fun ys' p6 hper hsor hp6 => ⟨sz100 (by decide), fun p7 hp7 => ?_⟩⟩
        · rw [← z1] at hv
          obtain ⟨z, hz, rfl⟩ := List.mem_map.mp hv
          exact ⟨rowI4 z.2, tup (z3 z hz), rfl, bd _ (by rw [← z2]; exact List.mem_map.mpr ⟨z, hz, rfl⟩)⟩
        · obtain ⟨zs', p1, p2⟩ := perm_map_inv hper.symm zs z1
          have T6 := same_upd (o := .lst ys') hp6
          have e6 : upd H6 p6 (.lst ys') p6 = some (.lst ys') := upd_same
          generalize upd H6 p6 (.lst ys') = G1 at T6 e6 hp7 ⊢
          have T7 := same_upd (o := .tup [V.ref p6, lad]) hp7
          have z3' : ∀ z ∈ zs', Th K H6 z.1 (rowD z.2) := fun z hz => z3 z (p1.mem_iff.mpr hz)
          have Sfin := (SB.trans SJ1).trans (T6.trans T7)
          have Snew : Same (newOf H H6) (newOf H (upd G1 p7 (.tup [V.ref p6, lad]))) := fun b o e => newOf_at (newOf_is e).1 ((T6.trans T7) _ _ (newOf_is e).2)
          have hLn : LadD (but [p6] (newOf H (upd G1 p7 (.tup [V.ref p6, lad])))) lad g.days.length Fl Ml := by
            refine hL.same fun b o eb => ?_
            obtain ⟨e0, e1⟩ := newOf_is eb
            have nb : b ≠ D2 := fun z => by rw [z, hD2] at e1; cases e1
            have e6b : H6 b = some o := SJ1 _ _ (but_at (fun z => nb (List.mem_singleton.mp z)) ((S4.trans S5) _ _ e1))
            exact but_at (fun z => by rw [List.mem_singleton.mp z, hp6] at e6b; cases e6b) (newOf_at (S12.free e0) ((T6.trans T7) _ _ e6b))
          have Snew6 : Same (newOf H H6) (but [p6] (newOf H (upd G1 p7 (.tup [V.ref p6, lad])))) := fun b o e => but_at (fun z => by have h := (newOf_is e).2; rw [List.mem_singleton.mp z, hp6] at h; cases h) (Snew _ _ e)
          have hrows : ThAll K (but [p6] (newOf H (upd G1 p7 (.tup [V.ref p6, lad])))) ys' ((zs'.map Prod.snd).map rowD) := by
            rw [← p2]
            exact rows_all fun z hz => (z3n z (p1.mem_iff.mpr hz)).same Snew6
          have ep6 : newOf H (upd G1 p7 (.tup [V.ref p6, lad])) p6 = some (.lst ys') := newOf_at ((SB.trans SJ1).free hp6) (T7 _ _ e6)
          refine q _ p7 (.ref p6) lad (zs'.map Prod.snd) Fl Ml Sfin upd_same ⟨?_, ?_, ?_, hLn.same (but_same _ _), hFl, hMl, hB, p6, ys', rfl, ep6, hrows, hLn⟩
          · exact .lst (SqL.of ep6) (hrows.same (but_same _ _))
          · rw [← hWd, ← z2]
            exact (p1.map _).symm
          · rw [← p2, List.pairwise_map] at hsor
            rw [List.pairwise_map]
            exact hsor.imp_of_mem fun {x y} hx hy h => h _ _ (tup (z3' x hx)) (tup (z3' y hy))
end
end Bk

namespace Bk
open PySem PySem.Spec PyProof.Rows L2
local macro_rules | `(tactic| walk_at "wp") => `(tactic| try simp only [iRng3_eq, rRng3_i, rNeN_r, tAugS, rIsDX_list, iZipA_eq, rZipA_r, iEnumZip_eq, rEnumZip_r, tFld_eq, tMeth_eq, rTIx_r, tTru, tScT2, rSetL_r, rSetOf2_r, rSorDT_r, rSetD, tDGet2, tDGet, tDNewT, cxW, rExtend_r, rSortU_r, rSetOf_r, rSortedSet_r, rNinr_r, rNeN_r, rCatL_r, rSlT_r, rListOf_r, rIsB_b, rNotB_b, tFmtO, tJs, tOst, tCallS, WE, tRaise2, rOne_i, rSorD_r, tDNewK, Int.zero_add, tNever, tFor_eq, tLc_eq, iList, iTup, iRng1_eq, rRng1_i, iRng2_eq, rRng2_i, iEnum_eq, rEnum_r, iZip_eq, rZip_r, tSl, tPart, tNoPart, rSlL_r, rCat_r, rIn_r, rNin_r, rRepr_r, iRevR, rMin_r, rShr_i, rOdd_i, rSetL_r, gSub, rRg1_i, rRg2_i, rInr_r, tAug, ipI_ii, tLstRg, tRg1, tRg2, gTup_r, gUnl_r, rInt1_b, rInt1_i, rRep_r, tStep_r, scal, tSeq, tNext, tAsg, tRet, tRetN, tIfS, tDrop, tCB, tCons, tNil, tVar, tOp, tUn, tC, rU_i, rI_ii, rI0_ii, rEq, rNe, tTest, tB, tAnd, tOr, tNot, tAndV, tOrV, tNotV, tIf, tChain, tLst, tTup, tBM, tBM0, rAppend_r, rIxL_r, rIxT_r, rMx_ii, rMn_ii, rLnL_r, rLnT_r, rIsD_int, rIsD_bool, rIsD_list, rIsD_tuple, tCall, gName, gNil_n, gCons_c, cxK, L2.start, List.map, List.replicate, List.length_cons, List.length_nil, List.cons_append, List.nil_append, List.append_nil, List.getElem?_cons_zero, List.getElem?_cons_succ, Option.some.injEq, exists_eq_left', exists_eq_left, V.int.injEq, V.bl.injEq, V.str.injEq, V.ref.injEq, List.cons.injEq, and_true, true_and, and_self, List.set, wipe, rAll_r, rSum_r, reduceCtorEq, decide_true, decide_false, reduceIte, ite_true, ite_false, if_true, if_false, Bool.false_eq_true, Bool.not_true, Bool.not_false])
local macro_rules | `(tactic| walk_at "shaped") => `(tactic| (simp only [iRng3_eq, rRng3_i, rNeN_r, tAugS, rIsDX_list, SeqAt.shaped, PyData.canLay0, PyData.canLayAll0, PyData.depth, PyData.depthAll]; rfl))
local macro_rules | `(tactic| walk_at "lay") => `(tactic| (simp only [iRng3_eq, rRng3_i, rNeN_r, tAugS, rIsDX_list, PyData.canLay0, PyData.canLayAll0]; rfl))
local macro_rules | `(tactic| walk_at "wg") => `(tactic| try simp only [gName, gTup_r, gCons_c, gNil_n, cxK, List.set, List.cons.injEq, and_true, true_and, exists_eq_left', exists_eq_left, List.length_cons, List.length_nil])
section
variable {P : Program} {w : World} {K : PySem.W.Frag} {mg : Str → Option Value} {base : Heap}
theorem op_ltTK {X : Cx} {K : PySem.W.Frag} (hK : X.K = K) (hu : X.A.units + 64 < cLine) : OpR X (compareOp .Lt) (rLtT K) := hK ▸ op_ltT (by omega)
abbrev s_are_rising : Stmt := top 43
theorem sc_are_rising : FnScope ["plan", "heads", "row", "head", "following"] ["plan"] (defScope s_are_rising) := ⟨rfl, rfl, rfl, by decide +kernel, rfl, by decide +kernel, by decide +kernel⟩
def spRising (K : PySem.W.Frag) : Sp := fun vs H Q _ => ∃ (y : V) (L : List Row4), vs = [y] ∧ Th K H y (planD L) ∧ L.length ≤ 500 ∧ ∀ H', Same H H' → Q (.bl (risesB L)) H'
def RsI (K : PySem.W.Frag) (D : Addr) (zs : List (Addr × Row4)) (H : Hp) (i : Nat) (H' : Hp) : Prop := Same H H' ∧ ∃ R : Nat → Addr, H' D = some (.lst ((List.range i).map fun d => V.ref (R d))) ∧ (∀ d z, d < i → zs[d]? = some z → H' (R d) = some (.tup ((headR z.2).map V.int)))
theorem ok_are_rising {f : Addr} {fd : FuncData} (F : Fun K "are_rising" "are_rising" s_are_rising f fd) (B : Bi mg) (Bz : mg "zip" = none) : FnOk P w K mg base CX0 1 f fd ["plan"] (spRising K) := by
  refine F.ok sc_are_rising (fun vs H Q E h => ?_) (fun cdv A outer s H vs Q E hr h => ?_)
  · obtain ⟨_, _, rfl, _⟩ := h
    rfl
  · obtain ⟨y, L, rfl, hP, hLl, q⟩ := h
    refine ⟨_, (pss_cons (ps_setLc (i := 1) (own := [("row", 2)]) (g := (gName 2)) (te := (tSl (rSlT K) _ _ _)) rfl sc_are_rising.nd rfl rfl (sw_true rfl rfl rfl (by decide +kernel)) (pi_list (pv 0)) (blkOk_by (own := [("row", 2)]) (N := ["plan", "heads", "row", "head", "following"]) (sc := defScope s_are_rising) (by decide +kernel)) (fun _ _ _ _ _ => (pg_name (i := 2) sc_are_rising.nd rfl (Or.inl rfl))) (fun _ _ _ _ _ => pts_nil) (fun _ _ _ _ _ => (pe_slice sl_tup (pv 2) po_none (po_some pe_int))))
 (pss_one (ps_ret (pe_callB (cr_all rfl) (by rfl) B.all (by decide +kernel) (pa_cons (pe_lc (own := [("head", 3), ("following", 4)]) (g := (gTup K 2 (gCons (gName 3) (gCons (gName 4) gNil)))) rfl sc_are_rising.nd (pi_zip (by rfl) Bz (pa_cons (pv 1) (pa_cons (pe_slice sl_list (pv 1) (po_some pe_int) po_none) pa_nil))) (blkOk_by (own := [("head", 3), ("following", 4)]) (N := ["plan", "heads", "row", "head", "following"]) (sc := defScope s_are_rising) (by decide +kernel)) (fun _ _ _ _ _ => (pg_tup rfl (pgs_cons (pg_name (i := 3) sc_are_rising.nd rfl (Or.inl rfl)) (pgs_cons (pg_name (i := 4) sc_are_rising.nd rfl (Or.inl rfl)) pgs_nil)))) (fun _ _ _ _ _ => pts_nil) (fun _ _ _ _ _ => (pe_cmpR (op_ltTK (K := K) rfl hr.units) (pv 3) (pv 4) (nomark _)))) pa_nil))))), ?_⟩
    obtain ⟨p, zs, rfl, hp, hz2, hz3⟩ := hP.plan
    have hzl : zs.length = L.length := by rw [← hz2, List.length_map]
    let lx : Nat → Bool := fun i => HT.lexLt (headR (rowAt L i)) (headR (rowAt L (i + 1)))
    walk_at "wp"
    refine ⟨⟨_, hp⟩, fun D hD => ?_⟩
    refine LcR.by (walk_list (xs := zs.map fun z => V.ref z.1)) (RsI K D zs H) ⟨same_upd hD, fun _ => 0, upd_same, (fun d z hd => by omega)⟩ (fun i H _ h => h.1.seq hp) (fun i v H0 H1 hi hI yy => ?_) (fun H1 hI => ?_)
    · obtain ⟨rfl, hxi⟩ := yy
      obtain ⟨S1, R, e1, e2⟩ := hI
      rw [List.length_map] at hi
      have hzi : zs[i]? = some zs[i] := List.getElem?_eq_getElem hi
      have hzm := List.getElem_mem hi
      rw [List.getElem?_map, hzi] at hxi
      cases hxi
      generalize zs[i] = z at hzi hzm
      walk_at "wp"
      refine ⟨_, Same.tup S1 (hz3 z hzm), fun h => absurd (show HT.sIx 4 4 (some 3) = 4 from h.2) (by decide), fun p2 np => ?_⟩
      rw [show cutV [V.int (z.2.a : Int), V.int (z.2.b : Int), V.int (z.2.c : Int), V.int z.2.m] none (some 3) = (headR z.2).map V.int from rfl]
      have nD : p2 ≠ D := fun h => by rw [h, e1] at np; cases np
      refine ⟨_, by rw [upd_ne nD.symm]; exact e1, sz100l (by rw [List.length_map, List.length_range]; omega), same_mut (S1.trans (same_upd np)) hD, fun d => if d = i then p2 else R d, ?_, fun d z2 hd hz => ?_⟩
      · have em : (List.range i).map (fun d => V.ref (if d = i then p2 else R d)) = (List.range i).map (fun d => V.ref (R d)) := List.map_congr_left fun d hd => by rw [if_neg (by have := List.mem_range.mp hd; omega)]
        rw [upd_same, List.range_succ, List.map_append, em]
        simp
      · dsimp only
        by_cases e : d = i
        · subst e
          rw [hzi] at hz
          cases hz
          rw [if_pos rfl, upd_ne nD, upd_same]
        · rw [if_neg e]
          have f := e2 d z2 (by omega) hz
          have n1 : R d ≠ D := fun h => by rw [h, e1] at f; cases f
          have n2 : R d ≠ p2 := fun h => by rw [h, np] at f; cases f
          rw [upd_ne n1, upd_ne n2]
          exact f
    · obtain ⟨S1, R, e1, e2⟩ := hI
      rw [List.length_map] at e1 e2
      walk_at "wp"
      refine ⟨_, SqL.of e1, fun p1 np => ?_⟩
      generalize hvs : (List.range zs.length).map (fun d => V.ref (R d)) = vs at e1
      have hvl : vs.length = zs.length := by rw [← hvs, List.length_map, List.length_range]
      have hvg : ∀ d, d < zs.length → vs[d]? = some (V.ref (R d)) := fun d hd => by rw [← hvs, List.getElem?_map, List.getElem?_range hd]; rfl
      rw [show cutV vs (some 1) none = vs.drop 1 from cutV_from _ 1]
      have S3 := same_upd (o := .lst (vs.drop 1)) np
      have E3 : upd H1 p1 (.lst (vs.drop 1)) p1 = some (.lst (vs.drop 1)) := upd_same
      generalize upd H1 p1 (.lst (vs.drop 1)) = H3 at S3 E3 ⊢
      refine ⟨_, _, SqL.of (S3 _ _ e1), SqL.of E3, fun D2 hD2 => ?_⟩
      refine LcR.by (walk_zip (n := zs.length - 1) (xs := vs) (ys := vs.drop 1) (by rw [List.length_drop, hvl]; omega)) (fun i H' => Same H3 H' ∧ H' D2 = some (.lst (((List.range i).map lx).map V.bl))) ⟨same_upd hD2, upd_same⟩ (fun i H' _ hI => ⟨hI.1.seq (SqL.of (S3 _ _ e1)), hI.1.seq (SqL.of E3)⟩) (fun i v H0 H4 hi hI hY => ?_) (fun H4 hI => ?_)
      · obtain ⟨S0, hacc⟩ := hI
        have S4 := S0.trans (ypair_same hY)
        have hacc2 := (ypair_same hY) _ _ hacc
        obtain ⟨T, z1, z2, rfl, hT, rfl, g1, g2⟩ := hY
        have g1 : vs[i]? = some z1 := g1
        have g2 : (vs.drop 1)[i]? = some z2 := g2
        rw [hvg i (by omega)] at g1
        rw [List.getElem?_drop, Nat.add_comm 1 i, hvg (i + 1) (by omega)] at g2
        cases g1
        cases g2
        have k1 : zs[i]? = some zs[i] := List.getElem?_eq_getElem (by omega)
        have k2 : zs[i + 1]? = some zs[i + 1] := List.getElem?_eq_getElem (by omega)
        have hl : HT.lexLt (headR zs[i].2) (headR zs[i + 1].2) = lx i := by
          have a1 : rowAt L i = zs[i].2 := rowAt_of (by rw [← hz2, List.getElem?_map, k1]; rfl)
          have a2 : rowAt L (i + 1) = zs[i + 1].2 := rowAt_of (by rw [← hz2, List.getElem?_map, k2]; rfl)
          show _ = HT.lexLt (headR (rowAt L i)) (headR (rowAt L (i + 1)))
          rw [a1, a2]
        have f1 := S4 _ _ (S3 _ _ (e2 i _ (by omega) k1))
        have f2 := S4 _ _ (S3 _ _ (e2 (i + 1) _ (by omega) k2))
        walk_at "wp"
        refine ⟨_, SqT.of upd_same, rfl, ?_⟩
        generalize upd H0 T (.tup [V.ref (R i), V.ref (R (i + 1))]) = H5 at S4 hacc2 f1 f2 ⊢
        walk_at "wp"
        refine ⟨_, _, _, _, rfl, rfl, SqT.of f1, SqT.of f2, ?_⟩
        rw [hl]
        refine ⟨_, hacc2, sz100l (by rw [List.length_map, List.length_map, List.length_range]; omega), same_mut S4 hD2, ?_⟩
        rw [upd_same, List.range_succ, List.map_append, List.map_append]
        rfl
      · obtain ⟨S4, ea⟩ := hI
        refine ⟨_, SqL.of ea, ?_⟩
        rw [show ((List.range (zs.length - 1)).map lx).all id = risesB L by rw [hzl, List.all_map]; rfl]
        exact q _ (S1.trans (S3.trans S4))
abbrev s_have_prices : Stmt := top 44
theorem sc_have_prices : FnScope ["bakery", "plan", "lights", "bound", "goods", "baked", "good", "given", "many"] ["bakery", "plan"] (defScope s_have_prices) := ⟨rfl, rfl, rfl, by decide +kernel, rfl, by decide +kernel, by decide +kernel⟩
def spHaveP (K : PySem.W.Frag) : Sp := fun vs H Q _ => ∃ x b y L, vs = [x, y] ∧ Th K H x (bakD b) ∧ bakB (bakD b) = true ∧ Th K H y (planD L) ∧ L.length ≤ 500 ∧ (∀ r ∈ L, r.a < b.lights.length ∧ r.b < b.goods.length ∧ r.c < b.lights.length) ∧ ∀ H', Same H H' → Q (.bl (L.all fun r => (priceAt b r).isSome)) H'
theorem ok_have_prices {f : Addr} {fd : FuncData} (F : Fun K "have_prices" "have_prices" s_have_prices f fd) (B : Bi mg) (D_loaf_price : Def P w K mg base "loaf_price" 2 ["good", "baked", "given"] (spLoafP K)) : FnOk P w K mg base CX0 3 f fd ["bakery", "plan"] (spHaveP K) := by
  refine F.ok sc_have_prices (fun vs H Q E h => ?_) (fun cdv A outer s H vs Q E hr h => ?_)
  · obtain ⟨_, _, _, _, rfl, _⟩ := h
    rfl
  · obtain ⟨x, b, y, L, rfl, hx, hb, hP, hLl, hF, q⟩ := h
    refine ⟨_, (pss_cons (ps_asg (pv 0) (pg_tup rfl (pgs_cons (pg_name (i := 2) sc_have_prices.nd rfl (Or.inl rfl)) (pgs_cons (pg_name (i := 3) sc_have_prices.nd rfl (Or.inl rfl)) (pgs_cons (pg_name (i := 4) sc_have_prices.nd rfl (Or.inr rfl)) pgs_nil)))))
 (pss_one (ps_ret (pe_callB (cr_all rfl) (by rfl) B.all (by decide +kernel) (pa_cons (pe_lc (own := [("baked", 5), ("good", 6), ("given", 7), ("many", 8)]) (g := (gTup K 4 (gCons (gName 5) (gCons (gName 6) (gCons (gName 7) (gCons (gName 8) gNil)))))) (te := (tOp _ (tCall _ _ _ (tCons (tOp (rIxL K) _ _) (tCons _ (tCons _ tNil)))) _)) rfl sc_have_prices.nd (pi_list (pv 1)) (blkOk_by (own := [("baked", 5), ("good", 6), ("given", 7), ("many", 8)]) (N := ["bakery", "plan", "lights", "bound", "goods", "baked", "good", "given", "many"]) (sc := defScope s_have_prices) (by decide +kernel)) (fun _ _ _ _ _ => (pg_tup rfl (pgs_cons (pg_name (i := 5) sc_have_prices.nd rfl (Or.inl rfl)) (pgs_cons (pg_name (i := 6) sc_have_prices.nd rfl (Or.inl rfl)) (pgs_cons (pg_name (i := 7) sc_have_prices.nd rfl (Or.inl rfl)) (pgs_cons (pg_name (i := 8) sc_have_prices.nd rfl (Or.inl rfl)) pgs_nil)))))) (fun _ _ _ _ _ => pts_nil) (fun _ _ _ _ _ => (pe_cmpR op_notN (pe_callD D_loaf_price hr (by rfl) (pa_cons (pe_ix ix_list (pv 4) (pv 6) (fun _ _ => rfl)) (pa_cons (pv 5) (pa_cons (pv 7) pa_nil)))) pe_non (nomark _)))) pa_nil))))), ?_⟩
    obtain ⟨⟨c1, c2⟩, c3, _, _, c7⟩ := bak_parts hb
    obtain ⟨a, l, v2, ga, xl, xg, rfl, ht, hl, hla, h2, hgl, hga⟩ := Th.bak hx
    obtain ⟨p, zs, rfl, hp, hz2, hz3⟩ := hP.plan
    have hzl : zs.length = L.length := by rw [← hz2, List.length_map]
    walk_at "wp"
    refine ⟨_, ht, rfl, ?_⟩
    walk_at "wp"
    refine ⟨⟨_, hp⟩, fun D hD => ?_⟩
    refine LcR.map (walk_list (xs := zs.map fun z => V.ref z.1)) ((zs.map fun z => (priceAt b z.2).isSome).map V.bl) hD (by rw [List.length_map, List.length_map, List.length_map]) (by rw [List.length_map]; omega) (fun H s => s.seq hp) (fun _ _ _ _ y => yat_same y) (fun i x y H0 H5 hi s5 yy hy R hR2 => ?_) (fun H5 s5 hH5 => ?_)
    · obtain ⟨rfl, hxi⟩ := yy
      rw [List.length_map] at hi
      rw [List.getElem?_map, List.getElem?_eq_getElem hi] at hxi
      rw [List.getElem?_map, List.getElem?_map, List.getElem?_eq_getElem hi] at hy
      cases hxi
      cases hy
      have hzm := List.getElem_mem hi
      dsimp only at hR2 ⊢
      generalize zs[i] = z at hzm hR2 ⊢
      obtain ⟨ka, kb, kc⟩ := hF z.2 (by rw [← hz2]; exact List.mem_map.mpr ⟨z, hzm, rfl⟩)
      have hg : b.goods[z.2.b]? = some b.goods[z.2.b] := List.getElem?_eq_getElem kb
      have hgm := List.getElem_mem kb
      generalize b.goods[z.2.b] = g at hg hgm
      obtain ⟨c8, c9, hok⟩ := c7 g hgm
      obtain ⟨vg, hv, hvg⟩ := hga.get' (i := z.2.b) (d := goodD g) (by rw [List.getElem?_map, hg]; rfl)
      have hpa : priceAt b z.2 = loafP g z.2.a z.2.c := by unfold priceAt; rw [hg]
      rw [hpa] at hR2
      walk_at "wp"
      refine ⟨_, Same.tup s5 (hz3 z hzm), rfl, ?_⟩
      walk_at "wp"
      refine ⟨_, _, s5.seq hgl, atI_nat (j := z.2.b) hv, ?_⟩
      refine ⟨_, g, z.2.a, z.2.c, rfl, hvg.same s5, by omega, by omega, fun H6 S6 => ?_⟩
      cases hpz : loafP g z.2.a z.2.c with
      | none =>
        rw [hpz] at hR2
        simp only [optV]
        walk_at "wp"
        exact hR2 _ S6
      | some pz =>
        rw [hpz] at hR2
        simp only [optV]
        walk_at "wp"
        exact hR2 _ S6
    · refine ⟨_, SqL.of hH5, ?_⟩
      rw [show (zs.map fun z => (priceAt b z.2).isSome).all id = L.all fun r => (priceAt b r).isSome by rw [← hz2, List.all_map, List.all_map]; rfl]
      exact q _ s5
def NlI (D : Addr) (n m : Nat) (H : Hp) (i : Nat) (H' : Hp) : Prop := Same H H' ∧ ∃ R : Nat → Addr, H' D = some (.lst ((List.range i).map fun d => V.ref (R d))) ∧ (∀ d, d < i → H (R d) = none ∧ R d ≠ D ∧ H' (R d) = some (.lst (rowM m fun _ => 0))) ∧ ∀ d e, d < i → e < i → R d = R e → d = e
abbrev s_meets_wants : Stmt := top 45
theorem sc_meets_wants : FnScope ["bakery", "plan", "lights", "bound", "goods", "wants", "met", "baked", "good", "given", "many", "days", "life", "want", "loaf", "keep", "fine", "day"] ["bakery", "plan"] (defScope s_meets_wants) := ⟨rfl, rfl, rfl, by decide +kernel, rfl, by decide +kernel, by decide +kernel⟩
structure Met (H : Hp) (D : Addr) (R : Nat → Addr) (n m : Nat) (f : Nat → Nat → Int) : Prop where
  top : H D = some (.lst ((List.range n).map fun d => V.ref (R d)))
  row : ∀ g, g < n → H (R g) = some (.lst (rowM m (f g)))
  inj : ∀ d e, d < n → e < n → R d = R e → d = e
theorem Met.add {H : Hp} {D : Addr} {R : Nat → Addr} {n m : Nat} {f : Nat → Nat → Int} (h : Met H D R n m f) (hD : ∀ g, g < n → R g ≠ D) {g d : Nat} {x : Int} (hg : g < n) : Met (upd H (R g) (.lst ((rowM m (f g)).set d (.int (f g d + x))))) D R n m (fun g' d' => f g' d' + if g = g' ∧ d = d' then x else 0) := by
  refine ⟨by rw [upd_ne (fun z => hD g hg z.symm)]; exact h.top, fun g' hg' => ?_, h.inj⟩
  by_cases e : g' = g
  · subst e
    rw [upd_same, rowM_set]
    refine congrArg (fun r => some (HO.lst (rowM m r))) (funext fun j => ?_)
    by_cases e2 : j = d
    · rw [if_pos e2, if_pos ⟨rfl, e2.symm⟩, e2]
    · rw [if_neg e2, if_neg (fun z => e2 z.2.symm), Int.add_zero]
  · rw [upd_ne (fun z => e (h.inj g' g hg' hg z)), h.row g' hg']
    refine congrArg (fun r => some (HO.lst (rowM m r))) (funext fun j => ?_)
    rw [if_neg (fun z => e z.1.symm), Int.add_zero]
def MwI (K : PySem.W.Frag) (D : Addr) (b : Bak) (H : Hp) (i : Nat) (H' : Hp) : Prop := Same H H' ∧ ∃ R : Nat → Addr, H' D = some (.lst ((List.range i).map fun d => V.ref (R d))) ∧ ∀ g, g < i → R g ≠ D ∧ H' (R g) = some (.lst (rowM b.lights.length (wantB b g)))
theorem nlI_next {H H1 H3 : Hp} {D D2 : Addr} {R : Nat → Addr} {n m i : Nat} (S1 : Same H H1) (e1 : H1 D = some (.lst ((List.range i).map fun d => V.ref (R d)))) (e2 : ∀ d, d < i → H (R d) = none ∧ R d ≠ D ∧ H1 (R d) = some (.lst (rowM m fun _ => 0))) (e3 : ∀ d e, d < i → e < i → R d = R e → d = e) (hD : H D = none) (hD2 : H1 D2 = none) (s3 : Same H1 H3) (hH3 : H3 D2 = some (.lst (rowM m fun _ => 0))) : NlI D n m H (i + 1) (upd H3 D (.lst (((List.range i).map fun d => V.ref (R d)) ++ [V.ref D2]))) := by
  have nD : D2 ≠ D := fun z => by rw [z, e1] at hD2; cases hD2
  refine ⟨same_mut (S1.trans s3) hD, fun d => if d = i then D2 else R d, ?_, fun d hd => ?_, fun d e hd he h => ?_⟩
  · have em : (List.range i).map (fun d => V.ref (if d = i then D2 else R d)) = (List.range i).map (fun d => V.ref (R d)) := List.map_congr_left fun d hd => by rw [if_neg (by have := List.mem_range.mp hd; omega)]
    rw [upd_same, List.range_succ, List.map_append, em]
    simp
  · dsimp only
    by_cases e : d = i
    · rw [if_pos e]
      exact ⟨S1.free hD2, nD, by rw [upd_ne nD]; exact hH3⟩
    · rw [if_neg e]
      obtain ⟨f1, f2, f3⟩ := e2 d (by omega)
      exact ⟨f1, f2, by rw [upd_ne f2]; exact s3 _ _ f3⟩
  · have hne : ∀ d, d < i → R d ≠ D2 := fun d hd z => by
      have := (e2 d hd).2.2
      rw [z, hD2] at this
      cases this
    dsimp only at h
    by_cases h1 : d = i
    · by_cases h2 : e = i
      · omega
      · rw [if_pos h1, if_neg h2] at h
        exact absurd h.symm (hne e (by omega))
    · by_cases h2 : e = i
      · rw [if_neg h1, if_pos h2] at h
        exact absurd h (hne d (by omega))
      · rw [if_neg h1, if_neg h2] at h
        exact e3 d e (by omega) (by omega) h
def MlI (v0 v1 v2 v3 v4 v5 : V) (D : Addr) (R : Nat → Addr) (n m : Nat) (zs : List (Addr × Row4)) (H : Hp) (i : Nat) (σ : L2.St) (H' : Hp) : Prop := ∃ (y7 y8 y9 y10 : Option V), σ = [some v0, some v1, some v2, some v3, some v4, some v5, some (.ref D), y7, y8, y9, y10, none, none, none, none, none, none, none] ∧ Same H H' ∧ Met H' D R n m (metM ((zs.take i).map (·.2)))
def spMeets (K : PySem.W.Frag) : Sp := fun vs H Q _ => ∃ x b y L, vs = [x, y] ∧ Th K H x (bakD b) ∧ bakB (bakD b) = true ∧ Th K H y (planD L) ∧ L.length ≤ 500 ∧ (∀ r ∈ L, r.b < b.goods.length ∧ r.c < b.lights.length) ∧ ∀ H', Same H H' → Q (.bl (meetsB b L)) H'
theorem ok_meets_wants {f : Addr} {fd : FuncData} (F : Fun K "meets_wants" "meets_wants" s_meets_wants f fd) (B : Bi mg) : FnOk P w K mg base CX0 1 f fd ["bakery", "plan"] (spMeets K) := by
  refine F.ok sc_meets_wants (fun vs H Q E h => ?_) (fun cdv A outer s H vs Q E hr h => ?_)
  · obtain ⟨_, _, _, _, rfl, _⟩ := h
    rfl
  · obtain ⟨x, b, y, L, rfl, hx, hb, hP, hLl, ha, q⟩ := h
    refine ⟨_, (pss_cons (ps_asg (pv 0) (pg_tup rfl (pgs_cons (pg_name (i := 2) sc_meets_wants.nd rfl (Or.inl rfl)) (pgs_cons (pg_name (i := 3) sc_meets_wants.nd rfl (Or.inl rfl)) (pgs_cons (pg_name (i := 4) sc_meets_wants.nd rfl (Or.inl rfl)) pgs_nil)))))
 (pss_cons (ps_setLc (i := 5) (own := [("days", 11), ("life", 12)]) (g := (gTup K 2 (gCons (gName 11) (gCons (gName 12) gNil)))) (te := (tLc (iList K _) (gTup K 4 (gCons (gName 13) (gCons (gName 14) (gCons (gName 15) (gCons (gName 16) gNil))))) tYes _ [13, 14, 15, 16])) rfl sc_meets_wants.nd rfl rfl (sw_true rfl rfl rfl (by decide +kernel)) (pi_list (pv 4)) (blkOk_by (own := [("days", 11), ("life", 12)]) (N := ["bakery", "plan", "lights", "bound", "goods", "wants", "met", "baked", "good", "given", "many", "days", "life", "want", "loaf", "keep", "fine", "day"]) (sc := defScope s_meets_wants) (by decide +kernel)) (fun _ _ _ _ _ => (pg_tup rfl (pgs_cons (pg_name (i := 11) sc_meets_wants.nd rfl (Or.inl rfl)) (pgs_cons (pg_name (i := 12) sc_meets_wants.nd rfl (Or.inl rfl)) pgs_nil)))) (fun _ _ _ _ _ => pts_nil) (fun _ _ _ _ _ => (pe_lc (own := [("want", 13), ("loaf", 14), ("keep", 15), ("fine", 16)]) (g := (gTup K 4 (gCons (gName 13) (gCons (gName 14) (gCons (gName 15) (gCons (gName 16) gNil)))))) rfl sc_meets_wants.nd (pi_list (pv 11)) (blkOk_by (own := [("want", 13), ("loaf", 14), ("keep", 15), ("fine", 16)]) (N := ["bakery", "plan", "lights", "bound", "goods", "wants", "met", "baked", "good", "given", "many", "days", "life", "want", "loaf", "keep", "fine", "day"]) (sc := ({ kind := .function, names := [(".0", .local), ("days", .local), ("life", .local)], isGenerator := false, isCoroutine := false } : Scope)) (by decide +kernel)) (fun _ _ _ _ _ => (pg_tup rfl (pgs_cons (pg_name (i := 13) sc_meets_wants.nd rfl (Or.inl rfl)) (pgs_cons (pg_name (i := 14) sc_meets_wants.nd rfl (Or.inl rfl)) (pgs_cons (pg_name (i := 15) sc_meets_wants.nd rfl (Or.inl rfl)) (pgs_cons (pg_name (i := 16) sc_meets_wants.nd rfl (Or.inl rfl)) pgs_nil)))))) (fun _ _ _ _ _ => pts_nil) (fun _ _ _ _ _ => (pv 13)))))
 (pss_cons (ps_setLc (i := 6) (own := [("days", 11), ("life", 12)]) (g := (gTup K 2 (gCons (gName 11) (gCons (gName 12) gNil)))) (te := (tLc (iList K _) (gName 17) tYes _ [17])) rfl sc_meets_wants.nd rfl rfl (sw_true rfl rfl rfl (by decide +kernel)) (pi_list (pv 4)) (blkOk_by (own := [("days", 11), ("life", 12)]) (N := ["bakery", "plan", "lights", "bound", "goods", "wants", "met", "baked", "good", "given", "many", "days", "life", "want", "loaf", "keep", "fine", "day"]) (sc := defScope s_meets_wants) (by decide +kernel)) (fun _ _ _ _ _ => (pg_tup rfl (pgs_cons (pg_name (i := 11) sc_meets_wants.nd rfl (Or.inl rfl)) (pgs_cons (pg_name (i := 12) sc_meets_wants.nd rfl (Or.inl rfl)) pgs_nil)))) (fun _ _ _ _ _ => pts_nil) (fun _ _ _ _ _ => (pe_lc (own := [("day", 17)]) (g := (gName 17)) rfl sc_meets_wants.nd (pi_list (pv 11)) (blkOk_by (own := [("day", 17)]) (N := ["bakery", "plan", "lights", "bound", "goods", "wants", "met", "baked", "good", "given", "many", "days", "life", "want", "loaf", "keep", "fine", "day"]) (sc := ({ kind := .function, names := [(".0", .local), ("days", .local), ("life", .local)], isGenerator := false, isCoroutine := false } : Scope)) (by decide +kernel)) (fun _ _ _ _ _ => (pg_name (i := 17) sc_meets_wants.nd rfl (Or.inl rfl))) (fun _ _ _ _ _ => pts_nil) (fun _ _ _ _ _ => pe_int))))
 (pss_cons (ps_for PassesOwn.never rfl (pi_list (pv 1)) (pg_tup rfl (pgs_cons (pg_name (i := 7) sc_meets_wants.nd rfl (Or.inl rfl)) (pgs_cons (pg_name (i := 8) sc_meets_wants.nd rfl (Or.inl rfl)) (pgs_cons (pg_name (i := 9) sc_meets_wants.nd rfl (Or.inl rfl)) (pgs_cons (pg_name (i := 10) sc_meets_wants.nd rfl (Or.inl rfl)) pgs_nil))))) (pss_one (ps_augS (pe_ix ix_list (pv 6) (pv 8) (fun _ _ => rfl)) (pv 9) get_list (pv 10) ip_add set_list)))
 (pss_one (ps_ret (pe_cmpR (op_eqD hr.units) (pv 6) (pv 5) (nomark _)))))))), ?_⟩
    obtain ⟨⟨c1, c2⟩, c3, _, _, c7⟩ := bak_parts hb
    obtain ⟨a, l, v2, ga, xl, xg, rfl, ht, hl, hla, h2, hgl, hga⟩ := Th.bak hx
    have hxl : xl.length = b.lights.length := by rw [hla.length, List.length_map]
    obtain ⟨p, zs, rfl, hp, hz2, hz3⟩ := hP.plan
    walk_at "wp"
    refine ⟨_, ht, rfl, ?_⟩
    walk_at "wp"
    refine ⟨⟨_, hgl⟩, fun D hD => ?_⟩
    have hxg : xg.length = b.goods.length := by rw [hga.length, List.length_map]
    have hgood : ∀ i (h : i < b.goods.length), ∃ vg, xg[i]? = some vg ∧ Th K H vg (goodD b.goods[i]) := fun i h => by
      obtain ⟨vg, hv, hvg⟩ := hga.get' (i := i) (d := goodD b.goods[i]) (by rw [List.getElem?_map, List.getElem?_eq_getElem h]; rfl)
      exact ⟨vg, hv, hvg⟩
    refine LcR.by (walk_list (xs := xg)) (MwI K D b H) ⟨same_upd hD, fun _ => 0, upd_same, (fun d hd => by omega)⟩ (fun i H _ h => h.1.seq hgl) (fun i v H0 H1 hi hI yy => ?_) (fun H1 hI => ?_)
    · obtain ⟨rfl, hxi⟩ := yy
      obtain ⟨S1, R, e1, e2⟩ := hI
      obtain ⟨vg, hv, hvg⟩ := hgood i (by omega)
      rw [hv] at hxi
      cases hxi
      obtain ⟨tg, dg, xd, rfl, htg, hdg, hdA⟩ := hvg.good
      have hgm := List.getElem_mem (show i < b.goods.length by omega)
      have hdl : xd.length = b.lights.length := by rw [hdA.length, List.length_map, (c7 _ hgm).1]
      walk_at "wp"
      refine ⟨_, Same.tup S1 htg, rfl, ?_⟩
      walk_at "wp"
      refine ⟨⟨_, S1.seq hdg⟩, fun D2 hD2 => ?_⟩
      have nD : D2 ≠ D := fun z => by rw [z, e1] at hD2; cases hD2
      refine LcR.map (walk_list (xs := xd)) (rowM b.lights.length (wantB b i)) hD2 (by rw [rowM_len, hdl]) (by omega) (fun H s => (S1.trans s).seq hdg) (fun _ _ _ _ y => yat_same y) (fun j x y H2 H3 hj s3 yy hy R0 hR0 => ?_) (fun H3 s3 hH3 => ?_)
      · obtain ⟨rfl, hxj⟩ := yy
        rw [rowM_get (by omega)] at hy
        cases hy
        have hjd : j < b.goods[i].days.length := by rw [(c7 _ hgm).1]; omega
        obtain ⟨vd, hvd, hdd⟩ := hdA.get' (i := j) (d := dayD b.goods[i].days[j]) (by rw [List.getElem?_map, List.getElem?_eq_getElem hjd]; rfl)
        rw [hxj] at hvd
        cases hvd
        obtain ⟨td, rfl, htd⟩ := hdd.day
        have hwn : wantB b i j = b.goods[i].days[j].want := by
          unfold wantB
          rw [List.getElem?_eq_getElem (show i < b.goods.length by omega)]
          show wantN b.goods[i] j = _
          unfold wantN
          rw [List.getElem?_eq_getElem hjd]
        walk_at "wp"
        refine ⟨_, Same.tup (S1.trans s3) htd, rfl, ?_⟩
        walk_at "wp"
        rw [← hwn]
        exact hR0 _ (Same.refl _)
      · refine ⟨_, s3 _ _ e1, sz100l (by rw [List.length_map, List.length_range]; omega), same_mut (S1.trans s3) hD, fun d => if d = i then D2 else R d, ?_, fun d hd => ?_⟩
        · have em : (List.range i).map (fun d => V.ref (if d = i then D2 else R d)) = (List.range i).map (fun d => V.ref (R d)) := List.map_congr_left fun d hd => by rw [if_neg (by have := List.mem_range.mp hd; omega)]
          rw [upd_same, List.range_succ, List.map_append, em]
          simp
        · dsimp only
          by_cases e : d = i
          · rw [if_pos e, upd_ne nD, e]
            exact ⟨nD, hH3⟩
          · rw [if_neg e]
            obtain ⟨n1, f⟩ := e2 d (by omega)
            rw [upd_ne n1]
            exact ⟨n1, s3 _ _ f⟩
    · obtain ⟨S1, R, e1, e2⟩ := hI
      rw [hxg] at e1 e2
      refine ⟨⟨_, S1.seq hgl⟩, fun D1 hD1 => ?_⟩
      refine LcR.by (walk_list (xs := xg)) (NlI D1 b.goods.length b.lights.length H1) ⟨same_upd hD1, fun _ => 0, upd_same, (fun d hd => by omega), (fun d e hd => by omega)⟩ (fun i H _ h => (S1.trans h.1).seq hgl) (fun i v H0 H2 hi hI yy => ?_) (fun H2 hI => ?_)
      · obtain ⟨rfl, hxi⟩ := yy
        obtain ⟨S2, R2, f1, f2, f3⟩ := hI
        obtain ⟨vg, hv, hvg⟩ := hgood i (by omega)
        rw [hv] at hxi
        cases hxi
        obtain ⟨tg, dg, xd, rfl, htg, hdg, hdA⟩ := hvg.good
        have hgm := List.getElem_mem (show i < b.goods.length by omega)
        have hdl : xd.length = b.lights.length := by rw [hdA.length, List.length_map, (c7 _ hgm).1]
        walk_at "wp"
        refine ⟨_, Same.tup (S1.trans S2) htg, rfl, ?_⟩
        walk_at "wp"
        refine ⟨⟨_, (S1.trans S2).seq hdg⟩, fun D2 hD2 => ?_⟩
        have nD : D2 ≠ D1 := fun z => by rw [z, f1] at hD2; cases hD2
        refine LcR.map (walk_list (xs := xd)) (rowM b.lights.length fun _ => 0) hD2 (by rw [rowM_len, hdl]) (by omega) (fun H s => (S1.trans (S2.trans s)).seq hdg) (fun _ _ _ _ y => yat_same y) (fun j x y H2 H3 hj s3 yy hy R0 hR0 => ?_) (fun H3 s3 hH3 => ?_)
        · obtain ⟨rfl, _⟩ := yy
          rw [rowM_get (by omega)] at hy
          cases hy
          walk_at "wp"
          exact hR0 _ (Same.refl _)
        · refine ⟨_, s3 _ _ f1, sz100l (by rw [List.length_map, List.length_range]; omega), nlI_next S2 f1 f2 f3 hD1 hD2 s3 hH3⟩
      · obtain ⟨S2, R2, f1, f2, f3⟩ := hI
        rw [hxg] at f1 f2 f3
        refine ⟨⟨_, (S1.trans S2).seq hp⟩, ?_⟩
        refine LoopR.by (walk_list (xs := zs.map fun z => V.ref z.1)) (MlI (.ref a) (.ref p) (.ref l) v2 (.ref ga) (.ref D) D1 R2 b.goods.length b.lights.length zs H1) ⟨none, none, none, none, rfl, S2, f1, fun g hg => (f2 g hg).2.2, f3⟩ (fun i σ H' _ hI => by obtain ⟨_, _, _, _, _, S, _⟩ := hI; exact (S1.trans S).seq hp) (fun i v σ H0 H3 hi hI yy => ?_) (fun σ H3 hI => ?_)
        · obtain ⟨rfl, hxi⟩ := yy
          rw [List.length_map] at hi
          have hzi : zs[i]? = some zs[i] := List.getElem?_eq_getElem hi
          have hzm := List.getElem_mem hi
          rw [List.getElem?_map, hzi] at hxi
          cases hxi
          obtain ⟨y7, y8, y9, y10, rfl, S3, hM⟩ := hI
          generalize zs[i] = z at hzi hzm
          obtain ⟨hb1, hb2⟩ := ha z.2 (by rw [← hz2]; exact List.mem_map.mpr ⟨z, hzm, rfl⟩)
          walk_at "wp"
          refine ⟨_, Same.tup (S1.trans S3) (hz3 z hzm), rfl, ?_⟩
          walk_at "wp"
          refine ⟨_, _, SqL.of hM.top, atI_nat (j := z.2.b) (by rw [List.getElem?_map, List.getElem?_range hb1]; rfl), ?_⟩
          dsimp only
          walk_at "wp"
          refine ⟨_, _, SqL.of (hM.row _ hb1), atI_nat (rowM_get hb2), ?_⟩
          walk_at "wp"
          refine ⟨_, z.2.c, hM.row _ hb1, by rw [rowM_len]; exact ixN_nat hb2, _, _, _, _, rfl, same_mut S3 (f2 _ hb1).1, ?_⟩
          rw [show metM ((zs.take (i + 1)).map (·.2)) = (fun g' d' => metM ((zs.take i).map (·.2)) g' d' + if z.2.b = g' ∧ z.2.c = d' then z.2.m else 0) from funext fun _ => funext fun _ => metM_step hzi _ _]
          exact hM.add (fun g hg => (f2 g hg).2.1) hb1
        · obtain ⟨y7, y8, y9, y10, rfl, S3, hM⟩ := hI
          rw [List.length_map, List.take_length, hz2] at hM
          walk_at "wp"
          exact eq_rowsX hM.top hM.row (S3 _ _ e1) (fun g hg => S3 _ _ (e2 g hg).2) (q _ (S1.trans S3))
end
end Bk

namespace Bk
open PySem PySem.Spec PyProof.Rows L2
local macro_rules | `(tactic| walk_at "wp") => `(tactic| try simp only [iRng3_eq, rRng3_i, rNeN_r, tAugS, rIsDX_list, iZipA_eq, rZipA_r, iEnumZip_eq, rEnumZip_r, tFld_eq, tMeth_eq, rTIx_r, tTru, tScT2, rSetL_r, rSetOf2_r, rSorDT_r, rSetD, tDGet2, tDGet, tDNewT, cxW, rExtend_r, rSortU_r, rSetOf_r, rSortedSet_r, rNinr_r, rNeN_r, rCatL_r, rSlT_r, rListOf_r, rIsB_b, rNotB_b, tFmtO, tJs, tOst, tCallS, WE, tRaise2, rOne_i, rSorD_r, tDNewK, Int.zero_add, tNever, tFor_eq, tLc_eq, iList, iTup, iRng1_eq, rRng1_i, iRng2_eq, rRng2_i, iEnum_eq, rEnum_r, iZip_eq, rZip_r, tSl, tPart, tNoPart, rSlL_r, rCat_r, rIn_r, rNin_r, rRepr_r, iRevR, rMin_r, rShr_i, rOdd_i, rSetL_r, gSub, rRg1_i, rRg2_i, rInr_r, tAug, ipI_ii, tLstRg, tRg1, tRg2, gTup_r, gUnl_r, rInt1_b, rInt1_i, rRep_r, tStep_r, scal, tSeq, tNext, tAsg, tRet, tRetN, tIfS, tDrop, tCB, tCons, tNil, tVar, tOp, tUn, tC, rU_i, rI_ii, rI0_ii, rEq, rNe, tTest, tB, tAnd, tOr, tNot, tAndV, tOrV, tNotV, tIf, tChain, tLst, tTup, tBM, tBM0, rAppend_r, rIxL_r, rIxT_r, rMx_ii, rMn_ii, rLnL_r, rLnT_r, rIsD_int, rIsD_bool, rIsD_list, rIsD_tuple, tCall, gName, gNil_n, gCons_c, cxK, L2.start, List.map, List.replicate, List.length_cons, List.length_nil, List.cons_append, List.nil_append, List.append_nil, List.getElem?_cons_zero, List.getElem?_cons_succ, Option.some.injEq, exists_eq_left', exists_eq_left, V.int.injEq, V.bl.injEq, V.str.injEq, V.ref.injEq, List.cons.injEq, and_true, true_and, and_self, List.set, wipe, rAll_r, rSum_r, reduceCtorEq, decide_true, decide_false, reduceIte, ite_true, ite_false, if_true, if_false, Bool.false_eq_true, Bool.not_true, Bool.not_false])
local macro_rules | `(tactic| walk_at "shaped") => `(tactic| (simp only [iRng3_eq, rRng3_i, rNeN_r, tAugS, rIsDX_list, SeqAt.shaped, PyData.canLay0, PyData.canLayAll0, PyData.depth, PyData.depthAll]; rfl))
local macro_rules | `(tactic| walk_at "lay") => `(tactic| (simp only [iRng3_eq, rRng3_i, rNeN_r, tAugS, rIsDX_list, PyData.canLay0, PyData.canLayAll0]; rfl))
local macro_rules | `(tactic| walk_at "wg") => `(tactic| try simp only [gName, gTup_r, gCons_c, gNil_n, cxK, List.set, List.cons.injEq, and_true, true_and, exists_eq_left', exists_eq_left, List.length_cons, List.length_nil])
section
variable {P : Program} {w : World} {K : PySem.W.Frag} {mg : Str → Option Value} {base : Heap}
def spPlaceA (K : PySem.W.Frag) : Sp := fun vs H Q _ => ∃ x d, ∃ n : Nat, vs = [x, .int (n : Int)] ∧ Th K H x d ∧ Q (.bl (plB n d)) H
theorem okA_is_place {f : Addr} {fd : FuncData} (F : Fun K "is_place" "is_place" s_is_place f fd) (D_is_whole : Def P w K mg base "is_whole" 1 ["thing"] (spWhole K)) : FnOk P w K mg base CX0 2 f fd ["thing", "many"] (spPlaceA K) := by
  refine F.ok sc_is_place (fun vs H Q E h => ?_) (fun cdv A outer s H vs Q E hr h => ?_)
  · obtain ⟨_, _, _, rfl, _⟩ := h
    rfl
  · obtain ⟨x, d, n, rfl, hx, q⟩ := h
    refine ⟨_, (pss_one (ps_ret (pe_and (pe_callD D_is_whole hr (by rfl) (pa_cons (pv 0) pa_nil)) (pe_one (pe_chain op_le op_lt pe_int (pv 0) (pv 1)))))), ?_⟩
    walk_at "wp"
    refine ⟨_, _, rfl, hx, ?_⟩
    cases hx with
    | int i =>
      simp only [wholeD]
      walk_at "wp"
      refine ite2 (fun h => qb ?_ q) (fun h => qb ?_ q)
      · simp only [plB, h, Bool.true_and]
      · simp only [plB, Bool.eq_false_iff.mpr h, Bool.false_and]
    | _ =>
      simp only [wholeD]
      walk_at "wp"
      exact q
abbrev s_is_dough_row : Stmt := top 54
theorem sc_is_dough_row : FnScope ["bakery", "thing", "lights", "bound", "goods", "mixed", "baked", "given", "many", "day"] ["bakery", "thing"] (defScope s_is_dough_row) := ⟨rfl, rfl, rfl, by decide +kernel, rfl, by decide +kernel, by decide +kernel⟩
def leD : PyData → PyData → Bool
  | .int i, .int j => decide (i ≤ j)
  | _, _ => false
/-- whether it is a row of a plan with doughs, of so many days -/
def drB (n : Nat) : PyData → Bool
  | .tuple [a, b, c, m] => (plB n a && (plB n b && plB n c)) && (leD a b && posD m)
  | _ => false
structure DRow (n : Nat) (r : Row4) : Prop where
  ab : r.a ≤ r.b
  b : r.b < n
  c : r.c < n
  m : 1 ≤ r.m
theorem drB_row {n : Nat} {d : PyData} (h : drB n d = true) : ∃ r : Row4, d = rowD r ∧ DRow n r := by
  match d, h with
  | .tuple [a, b, c, m], h =>
    simp only [drB, Bool.and_eq_true] at h
    obtain ⟨⟨h1, h2, h3⟩, h4, h5⟩ := h
    obtain ⟨i, rfl, hi⟩ := plB_nat h1
    obtain ⟨j, rfl, hj⟩ := plB_nat h2
    obtain ⟨k, rfl, hk⟩ := plB_nat h3
    obtain ⟨m, rfl, hm⟩ := posD_int h5
    have h4 : (i : Int) ≤ (j : Int) := of_decide_eq_true h4
    exact ⟨⟨i, j, k, m⟩, rfl, by show i ≤ j; omega, hj, hk, hm⟩
theorem drB_of {n : Nat} {r : Row4} (h : DRow n r) : drB n (rowD r) = true := by
  have h1 := h.ab
  have h2 := h.b
  have h3 := h.c
  have h4 := h.m
  simp only [rowD, drB, plB, leD, posD, Bool.and_eq_true, decide_eq_true_eq]
  omega
theorem drB_rows {n : Nat} : ∀ {ds : List PyData}, ds.all (drB n) = true → ∃ L : List Row4, ds = L.map rowD ∧ ∀ r ∈ L, DRow n r
  | [], _ => ⟨[], rfl, fun r h => by cases h⟩
  | d :: ds, h => by
    rw [List.all_cons, Bool.and_eq_true] at h
    obtain ⟨r, rfl, hr⟩ := drB_row h.1
    obtain ⟨L, rfl, hL⟩ := drB_rows h.2
    exact ⟨r :: L, rfl, fun x hx => by
      rcases List.mem_cons.mp hx with rfl | hx
      · exact hr
      · exact hL x hx⟩
def spDRow (K : PySem.W.Frag) : Sp := fun vs H Q _ => ∃ x b y d, vs = [x, y] ∧ Th K H x (bakD b) ∧ Th K H y d ∧ ∀ H', Same H H' → Q (.bl (drB b.lights.length d)) H'
theorem ok_is_dough_row {f : Addr} {fd : FuncData} (F : Fun K "is_dough_row" "is_dough_row" s_is_dough_row f fd) (B : Bi mg) (D_is_tuple_of : Def P w K mg base "is_tuple_of" 1 ["thing", "many"] (spTupleOf K)) (D_is_place : Def P w K mg base "is_place" 2 ["thing", "many"] (spPlaceA K)) (D_is_whole : Def P w K mg base "is_whole" 1 ["thing"] (spWhole K)) : FnOk P w K mg base CX0 3 f fd ["bakery", "thing"] (spDRow K) := by
  refine F.ok sc_is_dough_row (fun vs H Q E h => ?_) (fun cdv A outer s H vs Q E hr h => ?_)
  · obtain ⟨_, _, _, _, rfl, _⟩ := h
    rfl
  · obtain ⟨x, b, y, d, rfl, hx, hy, q⟩ := h
    refine ⟨_, (pss_cons (ps_if (pt_not (pt_val (pe_callD D_is_tuple_of hr (by rfl) (pa_cons (pv 1) (pa_cons pe_int pa_nil))))) (pss_one (ps_ret pe_bl)) pss_nil)
 (pss_cons (ps_asg (pv 0) (pg_tup rfl (pgs_cons (pg_name (i := 2) sc_is_dough_row.nd rfl (Or.inr rfl)) (pgs_cons (pg_name (i := 3) sc_is_dough_row.nd rfl (Or.inl rfl)) (pgs_cons (pg_name (i := 4) sc_is_dough_row.nd rfl (Or.inl rfl)) pgs_nil)))))
 (pss_cons (ps_asg (pv 1) (pg_tup rfl (pgs_cons (pg_name (i := 5) sc_is_dough_row.nd rfl (Or.inl rfl)) (pgs_cons (pg_name (i := 6) sc_is_dough_row.nd rfl (Or.inl rfl)) (pgs_cons (pg_name (i := 7) sc_is_dough_row.nd rfl (Or.inl rfl)) (pgs_cons (pg_name (i := 8) sc_is_dough_row.nd rfl (Or.inl rfl)) pgs_nil))))))
 (pss_cons (ps_if (pt_not (pt_val (pe_callB (cr_all rfl) (by rfl) B.all (by decide +kernel) (pa_cons (pe_lc (own := [("day", 9)]) (g := (gName 9)) (te := (tCall _ _ _ (tCons _ (tCons (tCB (rLnL K) _) tNil)))) rfl sc_is_dough_row.nd (pi_tup (pe_tup (pa_cons (pv 5) (pa_cons (pv 6) (pa_cons (pv 7) pa_nil))))) (blkOk_by (own := [("day", 9)]) (N := ["bakery", "thing", "lights", "bound", "goods", "mixed", "baked", "given", "many", "day"]) (sc := defScope s_is_dough_row) (by decide +kernel)) (fun _ _ _ _ _ => (pg_name (i := 9) sc_is_dough_row.nd rfl (Or.inl rfl))) (fun _ _ _ _ _ => pts_nil) (fun _ _ _ _ _ => (pe_callD D_is_place hr (by rfl) (pa_cons (pv 9) (pa_cons (pe_callB call_lnL (by rfl) B.len (by decide +kernel) (pa_cons (pv 2) pa_nil)) pa_nil))))) pa_nil)))) (pss_one (ps_ret pe_bl)) pss_nil)
 (pss_one (ps_ret (pe_and (pe_cmpR op_le (pv 5) (pv 6) (nomark _)) (pe_and (pe_callD D_is_whole hr (by rfl) (pa_cons (pv 8) pa_nil)) (pe_one (pe_cmpR op_ge (pv 8) pe_int (nomark _))))))))))), ?_⟩
    obtain ⟨a, l, v2, ga, xl, xg, rfl, ht, hl, hla, h2, hgl, hga⟩ := Th.bak hx
    have hxl : xl.length = b.lights.length := by rw [hla.length, List.length_map]
    walk_at "wp"
    refine ⟨y, d, 4, rfl, hy, ?_⟩
    have no : tupB 4 d = false → drB b.lights.length d = false := by
      intro h
      match d, h with
      | .tuple [a, b, c, m], h => cases h
      | .tuple [], _ => rfl
      | .tuple [_], _ => rfl
      | .tuple [_, _], _ => rfl
      | .tuple [_, _, _], _ => rfl
      | .tuple (_ :: _ :: _ :: _ :: _ :: _), _ => rfl
      | .none, _ => rfl
      | .bool _, _ => rfl
      | .int _, _ => rfl
      | .str _, _ => rfl
      | .list _, _ => rfl
      | .dict _, _ => rfl
    cases h4 : tupB 4 d with
    | false =>
      rw [no h4] at q
      walk_at "wp"
      exact q _ (Same.refl _)
    | true =>
      cases hy with
      | @tup ta xs ds hs ha =>
        have h4 : ds.length = 4 := of_decide_eq_true h4
        obtain ⟨d1, d2, d3, d4, rfl⟩ : ∃ d1 d2 d3 d4, ds = [d1, d2, d3, d4] := by
          match ds, h4 with
          | [a, b, c, e], _ => exact ⟨a, b, c, e, rfl⟩
        cases ha with
        | @cons v1 _ _ _ t1 ha => cases ha with
        | @cons v2' _ _ _ t2 ha => cases ha with
        | @cons v3 _ _ _ t3 ha => cases ha with
        | @cons v4 _ _ _ t4 ha =>
        cases ha
        walk_at "wp"
        refine ⟨_, ht, rfl, ?_⟩
        walk_at "wp"
        refine ⟨_, hs, rfl, ?_⟩
        walk_at "wp"
        refine ⟨sz100 (by decide), fun p hp => ⟨⟨_, SqT.of upd_same⟩, fun D hD => ?_⟩⟩
        have S1 := same_upd (o := .tup [v1, v2', v3]) hp
        have E1 : SqT K (upd H p (.tup [v1, v2', v3])) p [v1, v2', v3] := SqT.of upd_same
        generalize upd H p (.tup [v1, v2', v3]) = H1 at S1 E1 hD ⊢
        refine LcR.map (walk_tup (xs := [v1, v2', v3])) (([d1, d2, d3].map (plB b.lights.length)).map V.bl) hD rfl (by show 3 ≤ 100000; decide) (fun H s => Same.tup s E1) (fun _ _ _ _ y => yat_same y) (fun i x y H0 H2 hi s2 yy hy R hR => ?_) (fun H2 s2 hH => ?_)
        · obtain ⟨rfl, hxi⟩ := yy
          obtain ⟨d, hd, hxd⟩ := (ThAll.cons t1 (.cons t2 (.cons t3 .nil)) : ThAll K H [v1, v2', v3] [d1, d2, d3]).get hxi
          walk_at "wp"
          refine ⟨_, (S1.trans s2).seq hl, _, d, xl.length, rfl, hxd.same (S1.trans s2), ?_⟩
          rw [List.getElem?_map, List.getElem?_map, hd] at hy
          cases hy
          rw [hxl]
          exact hR _ (Same.refl _)
        · have S2 := S1.trans s2
          have q1 := q _ S2
          refine ⟨[d1, d2, d3].map (plB b.lights.length), SqL.of hH, ?_⟩
          have ea : ([d1, d2, d3].map (plB b.lights.length)).all id = (plB b.lights.length d1 && (plB b.lights.length d2 && plB b.lights.length d3)) := by
            simp only [List.map, List.all_cons, List.all_nil, id, Bool.and_true]
          rw [ea]
          have dr : drB b.lights.length (.tuple [d1, d2, d3, d4]) = ((plB b.lights.length d1 && (plB b.lights.length d2 && plB b.lights.length d3)) && (leD d1 d2 && posD d4)) := rfl
          rw [dr] at q1
          cases hb : (plB b.lights.length d1 && (plB b.lights.length d2 && plB b.lights.length d3)) with
          | false =>
            rw [hb] at q1
            walk_at "wp"
            exact q1
          | true =>
            rw [hb] at q1
            walk_at "wp"
            simp only [Bool.and_eq_true] at hb
            obtain ⟨p1, p2, p3⟩ := hb
            obtain ⟨i1, rfl, b1⟩ := plB_nat p1
            obtain ⟨i2, rfl, b2⟩ := plB_nat p2
            cases t1
            cases t2
            walk_at "wp"
            rw [Bool.true_and] at q1
            have el : leD (.int (i1 : Int)) (.int (i2 : Int)) = decide ((i1 : Int) ≤ (i2 : Int)) := rfl
            rw [el] at q1
            refine ite2 (fun h => ?_) (fun h => ?_)
            · rw [h, Bool.true_and] at q1
              refine ⟨_, _, rfl, t4.same S2, _, rfl, ?_⟩
              cases t4 with
              | int m =>
                simp only [wholeD]
                walk_at "wp"
                exact q1
              | _ =>
                simp only [wholeD]
                walk_at "wp"
                exact q1
            · rw [Bool.eq_false_iff.mpr h, Bool.false_and] at q1
              exact q1
      | _ => cases h4
end
end Bk

namespace Bk
open PySem PySem.Spec PyProof.Rows L2
local macro_rules | `(tactic| walk_at "wp") => `(tactic| try simp only [rIsDX_list, tAugS, tScT2, rSetL_r, rSetOf2_r, rSorDT_r, rSetD, tDGet2, tDGet, tDNewT, cxW, rExtend_r, rSortU_r, rSetOf_r, rSortedSet_r, rNinr_r, rNeN_r, rCatL_r, rSlT_r, rListOf_r, rIsB_b, rNotB_b, tFmtO, tJs, tOst, tCallS, WE, tRaise2, rOne_i, rSorD_r, tDNewK, Int.zero_add, tNever, tFor_eq, tLc_eq, iList, iTup, iRng1_eq, rRng1_i, iRng2_eq, rRng2_i, iEnum_eq, rEnum_r, iZip_eq, rZip_r, tSl, tPart, tNoPart, rSlL_r, rCat_r, rIn_r, rNin_r, rRepr_r, iRevR, rMin_r, rShr_i, rOdd_i, rSetL_r, gSub, rRg1_i, rRg2_i, rInr_r, tAug, ipI_ii, tLstRg, tRg1, tRg2, gTup_r, gUnl_r, rInt1_b, rInt1_i, rRep_r, tStep_r, scal, tSeq, tNext, tAsg, tRet, tRetN, tIfS, tDrop, tCB, tCons, tNil, tVar, tOp, tUn, tC, rU_i, rI_ii, rI0_ii, rEq, rNe, tTest, tB, tAnd, tOr, tNot, tAndV, tOrV, tNotV, tIf, tChain, tLst, tTup, tBM, tBM0, rAppend_r, rIxL_r, rIxT_r, rMx_ii, rMn_ii, rLnL_r, rLnT_r, rIsD_int, rIsD_bool, rIsD_list, rIsD_tuple, tCall, gName, gNil_n, gCons_c, cxK, L2.start, List.map, List.replicate, List.length_cons, List.length_nil, List.cons_append, List.nil_append, List.append_nil, List.getElem?_cons_zero, List.getElem?_cons_succ, Option.some.injEq, exists_eq_left', exists_eq_left, V.int.injEq, V.bl.injEq, V.str.injEq, V.ref.injEq, List.cons.injEq, and_true, true_and, and_self, List.set, wipe, rAll_r, rSum_r, reduceCtorEq, decide_true, decide_false, reduceIte, ite_true, ite_false, if_true, if_false, Bool.false_eq_true, Bool.not_true, Bool.not_false])
local macro_rules | `(tactic| walk_at "shaped") => `(tactic| (simp only [SeqAt.shaped, PyData.canLay0, PyData.canLayAll0, PyData.depth, PyData.depthAll]; rfl))
local macro_rules | `(tactic| walk_at "lay") => `(tactic| (simp only [PyData.canLay0, PyData.canLayAll0]; rfl))
local macro_rules | `(tactic| walk_at "wg") => `(tactic| try simp only [gName, gTup_r, gCons_c, gNil_n, cxK, List.set, List.cons.injEq, and_true, true_and, exists_eq_left', exists_eq_left, List.length_cons, List.length_nil])
section
variable {P : Program} {w : World} {K : PySem.W.Frag} {mg : Str → Option Value} {base : Heap}
abbrev s_without_doughs : Stmt := top 55
theorem sc_without_doughs : FnScope ["plan", "mixed", "baked", "given", "many"] ["plan"] (defScope s_without_doughs) := ⟨rfl, rfl, rfl, by decide +kernel, rfl, by decide +kernel, by decide +kernel⟩
def wodR (r : Row4) : Row4 := ⟨r.b, 0, r.c, r.m⟩
def spWod (K : PySem.W.Frag) : Sp := fun vs H Q _ => ∃ y L, vs = [y] ∧ Th K H y (planD L) ∧ L.length ≤ 500 ∧ ∀ H' p, Same H H' → Th K H' (.ref p) (planD (L.map wodR)) → Q (.ref p) H'
theorem ok_without_doughs {f : Addr} {fd : FuncData} (F : Fun K "without_doughs" "without_doughs" s_without_doughs f fd) : FnOk P w K mg base CX0 1 f fd ["plan"] (spWod K) := by
  refine F.ok sc_without_doughs (fun vs H Q E h => ?_) (fun cdv A outer s H vs Q E hr h => ?_)
  · obtain ⟨_, _, rfl, _⟩ := h
    rfl
  · obtain ⟨y, L, rfl, hP, hLl, q⟩ := h
    refine ⟨_, (pss_one (ps_ret (pe_lc (own := [("mixed", 1), ("baked", 2), ("given", 3), ("many", 4)]) (g := (gTup K 4 (gCons (gName 1) (gCons (gName 2) (gCons (gName 3) (gCons (gName 4) gNil)))))) rfl sc_without_doughs.nd (pi_list (pv 0)) (blkOk_by (own := [("mixed", 1), ("baked", 2), ("given", 3), ("many", 4)]) (N := ["plan", "mixed", "baked", "given", "many"]) (sc := defScope s_without_doughs) (by decide +kernel)) (fun _ _ _ _ _ => (pg_tup rfl (pgs_cons (pg_name (i := 1) sc_without_doughs.nd rfl (Or.inl rfl)) (pgs_cons (pg_name (i := 2) sc_without_doughs.nd rfl (Or.inl rfl)) (pgs_cons (pg_name (i := 3) sc_without_doughs.nd rfl (Or.inl rfl)) (pgs_cons (pg_name (i := 4) sc_without_doughs.nd rfl (Or.inl rfl)) pgs_nil)))))) (fun _ _ _ _ _ => pts_nil) (fun _ _ _ _ _ => (pe_tup (pa_cons (pv 2) (pa_cons pe_int (pa_cons (pv 3) (pa_cons (pv 4) pa_nil))))))))), ?_⟩
    obtain ⟨p, zs, rfl, hp, hz2, hz3⟩ := hP.plan
    have hzl : zs.length = L.length := by rw [← hz2, List.length_map]
    walk_at "wp"
    refine ⟨⟨_, hp⟩, fun D hD => ?_⟩
    refine LcR.build (H := H) (walk_list (xs := zs.map fun z => V.ref z.1)) ((L.map wodR).map rowD) hD (by rw [List.length_map, List.length_map, List.length_map, hzl]) (by rw [List.length_map]; omega) (fun H s => s.seq hp) (fun _ _ _ _ y => yat_same y) (fun i x e H0 H2 hi s2 hacc yy he R hR => ?_) (fun H2 acc s2 ea ta => ?_)
    · obtain ⟨rfl, hxi⟩ := yy
      obtain ⟨acc, eacc⟩ := hacc
      rw [List.length_map] at hi
      have hzi : zs[i]? = some zs[i] := List.getElem?_eq_getElem hi
      have hzm := List.getElem_mem hi
      rw [List.getElem?_map, hzi] at hxi
      cases hxi
      rw [List.getElem?_map, List.getElem?_map, ← hz2, List.getElem?_map, hzi] at he
      cases he
      generalize zs[i] = z at hzi hzm hR
      walk_at "wp"
      refine ⟨_, Same.tup s2 (hz3 z hzm), rfl, ?_⟩
      walk_at "wp"
      refine ⟨sz100 (by decide), fun p6 h6 => ?_⟩
      refine hR _ _ (same_upd h6) ?_
      have np : p6 ≠ D := fun q => by rw [q, eacc] at h6; cases h6
      exact .tup (newBut_at (s2.free h6) np np upd_same) (.cons (.int _) (.cons (.int _) (.cons (.int _) (.cons (.int _) .nil))))
    · have hT : Tk (newOf H H2) (.ref D) (planD (L.map wodR)) := .lst (newOf_at hD ea) (ta.same (newBut_same _ _ _ _))
      exact q _ _ s2 ((hT.same (newOf_same _ _)).th)
abbrev s_fits_doughs : Stmt := top 56
theorem sc_fits_doughs : FnScope ["bakery", "doughs", "thing", "loaves", "row"] ["bakery", "doughs", "thing"] (defScope s_fits_doughs) := ⟨rfl, rfl, rfl, by decide +kernel, rfl, by decide +kernel, by decide +kernel⟩
/-- what is told of rows of a plan with doughs -/
def fitL (b : Bak) (L : List Row4) : Bool := risesB L && (((L.map wodR).all fun r => (priceAt b r).isSome) && meetsB b (L.map wodR))
def fitDB (b : Bak) : PyData → Bool
  | .list ds => ds.all (drB b.lights.length) && fitL b (ds.map rowOf)
  | _ => false
def spFitD (K : PySem.W.Frag) : Sp := fun vs H Q _ => ∃ x ls g y ds z d, vs = [x, y, z] ∧ Th K H x (bakD ⟨ls, none, [g]⟩) ∧ bakB (bakD ⟨ls, none, [g]⟩) = true ∧ Th K H y (doughsD ds) ∧ ds.length = ls.length ∧ (∀ d ∈ ds, dghB (dghD d) = true) ∧ ThX K H z d ∧ FewL d ∧ ∀ H', Same H H' → Q (.bl (fitDB ⟨ls, none, [g]⟩ d)) H'
theorem ok_fits_doughs {f : Addr} {fd : FuncData} (F : Fun K "fits_doughs" "fits_doughs" s_fits_doughs f fd) (B : Bi mg) (D_look_at_doughs : Def P w K mg base "look_at_doughs" 9 ["bakery", "thing"] (spLookD K)) (D_is_dough_row : Def P w K mg base "is_dough_row" 3 ["bakery", "thing"] (spDRow K)) (D_without_doughs : Def P w K mg base "without_doughs" 1 ["plan"] (spWod K)) (D_are_rising : Def P w K mg base "are_rising" 1 ["plan"] (spRising K)) (D_have_prices : Def P w K mg base "have_prices" 3 ["bakery", "plan"] (spHaveP K)) (D_meets_wants : Def P w K mg base "meets_wants" 1 ["bakery", "plan"] (spMeets K)) : FnOk P w K mg base CX0 10 f fd ["bakery", "doughs", "thing"] (spFitD K) := by
  refine F.ok sc_fits_doughs (fun vs H Q E h => ?_) (fun cdv A outer s H vs Q E hr h => ?_)
  · obtain ⟨_, _, _, _, _, _, _, rfl, _⟩ := h
    rfl
  · obtain ⟨x, ls, g, y, dg, z, d, rfl, hx, hb, hy, hdl, hds, hz, hfew, q⟩ := h
    refine ⟨_, (pss_cons (ps_expr (pe_callD D_look_at_doughs hr (by rfl) (pa_cons (pv 0) (pa_cons (pv 1) pa_nil))))
 (pss_cons (ps_if (PW.pt (pw_or (pt_not (pt_val (pe_callB (call_isDX .list) (by rfl) B.isinstance (by decide +kernel) (pa_cons (pv 2) (pa_cons (pe_bltn (v := .ty "list") (by rfl) B.list (by decide +kernel) rfl) pa_nil))))) (pw_or1 (pt_not (pt_val (pe_callB (cr_all rfl) (by rfl) B.all (by decide +kernel) (pa_cons (pe_lc (own := [("row", 4)]) (g := (gName 4)) rfl sc_fits_doughs.nd (pi_list (pv 2)) (blkOk_by (own := [("row", 4)]) (N := ["bakery", "doughs", "thing", "loaves", "row"]) (sc := defScope s_fits_doughs) (by decide +kernel)) (fun _ _ _ _ _ => (pg_name (i := 4) sc_fits_doughs.nd rfl (Or.inl rfl))) (fun _ _ _ _ _ => pts_nil) (fun _ _ _ _ _ => (pe_callD D_is_dough_row hr (by rfl) (pa_cons (pv 0) (pa_cons (pv 4) pa_nil))))) pa_nil))))))) (pss_one (ps_ret pe_bl)) pss_nil)
 (pss_cons (ps_set (i := 3) sc_fits_doughs.nd rfl (Or.inl rfl) (pe_callD D_without_doughs hr (by rfl) (pa_cons (pv 2) pa_nil)))
 (pss_one (ps_ret (pe_and (pe_callD D_are_rising hr (by rfl) (pa_cons (pv 2) pa_nil)) (pe_and (pe_callD D_have_prices hr (by rfl) (pa_cons (pv 0) (pa_cons (pv 3) pa_nil))) (pe_one (pe_callD D_meets_wants hr (by rfl) (pa_cons (pv 0) (pa_cons (pv 3) pa_nil))))))))))), ?_⟩
    walk_at "wp"
    refine ⟨x, ls, g, y, dg, rfl, hx, hb, hy, hdl, hds, fun H1 S1 => ?_⟩
    walk_at "wp"
    refine ⟨d, hz.same S1, ?_⟩
    cases hl : isD .list d with
    | false =>
      walk_at "wp"
      have e : fitDB ⟨ls, none, [g]⟩ d = false := by
        cases d with
        | list ds => cases hl
        | _ => rfl
      rw [e] at q
      exact q _ S1
    | true =>
      cases hz with
      | one e t => cases hl
      | th t =>
      cases t with
      | @lst p xs ds hp ha =>
        walk_at "wp"
        refine ⟨⟨_, S1.seq hp⟩, fun D hD => ?_⟩
        have hdl5 := hfew ds rfl
        have hxl := ha.length
        refine LcR.map (walk_list (xs := xs)) ((ds.map (drB ls.length)).map V.bl) hD (by rw [List.length_map, List.length_map, hxl]) (by omega) (fun H s => (S1.trans s).seq hp) (fun _ _ _ _ y => yat_same y) (fun i v y H0 H2 hi s2 yy hy R hR => ?_) (fun H2 s2 hH => ?_)
        · obtain ⟨rfl, hxi⟩ := yy
          obtain ⟨d, hd, hxd⟩ := ha.get hxi
          rw [List.getElem?_map, List.getElem?_map, hd] at hy
          cases hy
          walk_at "wp"
          exact ⟨_, ⟨ls, none, [g]⟩, _, d, rfl, hx.same (S1.trans s2), hxd.same (S1.trans s2), fun H3 S3 => hR _ S3⟩
        · have S2 := S1.trans s2
          refine ⟨ds.map (drB ls.length), SqL.of hH, ?_⟩
          have ea : (ds.map (drB ls.length)).all id = ds.all (drB ls.length) := by rw [List.all_map]; rfl
          rw [ea]
          have ef : fitDB ⟨ls, none, [g]⟩ (.list ds) = (ds.all (drB ls.length) && fitL ⟨ls, none, [g]⟩ (ds.map rowOf)) := rfl
          rw [ef] at q
          cases hall : ds.all (drB ls.length) with
          | false =>
            rw [hall] at q
            walk_at "wp"
            exact q _ S2
          | true =>
            rw [hall, Bool.true_and] at q
            obtain ⟨L, rfl, hL⟩ := drB_rows hall
            rw [rowOf_map] at q
            rw [List.length_map] at hdl5
            have hP : Th K H (.ref p) (planD L) := .lst hp ha
            walk_at "wp"
            refine ⟨_, L, rfl, hP.same S2, hdl5, fun H3 p3 S3 hP3 => ?_⟩
            walk_at "wp"
            have T3 := S2.trans S3
            refine ⟨_, L, rfl, hP.same T3, hdl5, fun H4 S4 => ⟨_, rfl, ?_⟩⟩
            have T4 := T3.trans S4
            unfold fitL at q
            refine ite2 (fun h => ?_) (fun h => ?_)
            · rw [h, Bool.true_and] at q
              have hr2 : ∀ r ∈ L.map wodR, r.a < ls.length ∧ r.b < 1 ∧ r.c < ls.length := fun r hr => by
                obtain ⟨r0, h0, rfl⟩ := List.mem_map.mp hr
                have := (hL r0 h0).b
                have := (hL r0 h0).c
                exact ⟨(hL r0 h0).b, Nat.zero_lt_one, (hL r0 h0).c⟩
              refine ⟨_, ⟨ls, none, [g]⟩, _, L.map wodR, rfl, hx.same T4, hb, hP3.same S4, by rw [List.length_map]; exact hdl5, hr2, fun H5 S5 => ⟨_, rfl, ?_⟩⟩
              have T5 := T4.trans S5
              refine ite2 (fun h2 => ?_) (fun h2 => ?_)
              · rw [h2, Bool.true_and] at q
                exact ⟨_, ⟨ls, none, [g]⟩, _, L.map wodR, rfl, hx.same T5, hb, hP3.same (S4.trans S5), by rw [List.length_map]; exact hdl5, fun r hr => ⟨(hr2 r hr).2.1, (hr2 r hr).2.2⟩, fun H6 S6 => q _ (T5.trans S6)⟩
              · rw [Bool.eq_false_iff.mpr h2, Bool.false_and] at q
                exact q _ T5
            · rw [Bool.eq_false_iff.mpr h, Bool.false_and] at q
              exact q _ T4
      | _ => cases hl
end
end Bk

namespace Bk
open PySem PySem.Spec PyProof.Rows L2
local macro_rules | `(tactic| walk_at "wp") => `(tactic| try simp only [iRng3_eq, rRng3_i, rNeN_r, tAugS, rIsDX_list, iZipA_eq, rZipA_r, iEnumZip_eq, rEnumZip_r, tFld_eq, tMeth_eq, rTIx_r, tTru, tScT2, rSetL_r, rSetOf2_r, rSorDT_r, rSetD, tDGet2, tDGet, tDNewT, cxW, rExtend_r, rSortU_r, rSetOf_r, rSortedSet_r, rNinr_r, rNeN_r, rCatL_r, rSlT_r, rListOf_r, rIsB_b, rNotB_b, tFmtO, tJs, tOst, tCallS, WE, tRaise2, rOne_i, rSorD_r, tDNewK, Int.zero_add, tNever, tFor_eq, tLc_eq, iList, iTup, iRng1_eq, rRng1_i, iRng2_eq, rRng2_i, iEnum_eq, rEnum_r, iZip_eq, rZip_r, tSl, tPart, tNoPart, rSlL_r, rCat_r, rIn_r, rNin_r, rRepr_r, iRevR, rMin_r, rShr_i, rOdd_i, rSetL_r, gSub, rRg1_i, rRg2_i, rInr_r, tAug, ipI_ii, tLstRg, tRg1, tRg2, gTup_r, gUnl_r, rInt1_b, rInt1_i, rRep_r, tStep_r, scal, tSeq, tNext, tAsg, tRet, tRetN, tIfS, tDrop, tCB, tCons, tNil, tVar, tOp, tUn, tC, rU_i, rI_ii, rI0_ii, rEq, rNe, tTest, tB, tAnd, tOr, tNot, tAndV, tOrV, tNotV, tIf, tChain, tLst, tTup, tBM, tBM0, rAppend_r, rIxL_r, rIxT_r, rMx_ii, rMn_ii, rLnL_r, rLnT_r, rIsD_int, rIsD_bool, rIsD_list, rIsD_tuple, tCall, gName, gNil_n, gCons_c, cxK, L2.start, List.map, List.replicate, List.length_cons, List.length_nil, List.cons_append, List.nil_append, List.append_nil, List.getElem?_cons_zero, List.getElem?_cons_succ, Option.some.injEq, exists_eq_left', exists_eq_left, V.int.injEq, V.bl.injEq, V.str.injEq, V.ref.injEq, List.cons.injEq, and_true, true_and, and_self, List.set, wipe, rAll_r, rSum_r, reduceCtorEq, decide_true, decide_false, reduceIte, ite_true, ite_false, if_true, if_false, Bool.false_eq_true, Bool.not_true, Bool.not_false])
local macro_rules | `(tactic| walk_at "shaped") => `(tactic| (simp only [iRng3_eq, rRng3_i, rNeN_r, tAugS, rIsDX_list, SeqAt.shaped, PyData.canLay0, PyData.canLayAll0, PyData.depth, PyData.depthAll]; rfl))
local macro_rules | `(tactic| walk_at "lay") => `(tactic| (simp only [iRng3_eq, rRng3_i, rNeN_r, tAugS, rIsDX_list, PyData.canLay0, PyData.canLayAll0]; rfl))
local macro_rules | `(tactic| walk_at "wg") => `(tactic| try simp only [gName, gTup_r, gCons_c, gNil_n, cxK, List.set, List.cons.injEq, and_true, true_and, exists_eq_left', exists_eq_left, List.length_cons, List.length_nil])
section
variable {P : Program} {w : World} {K : PySem.W.Frag} {mg : Str → Option Value} {base : Heap}
abbrev s_is_plan_row : Stmt := top 42
theorem sc_is_plan_row : FnScope ["bakery", "thing", "lights", "bound", "goods", "baked", "good", "given", "many", "days", "places"] ["bakery", "thing"] (defScope s_is_plan_row) := ⟨rfl, rfl, rfl, by decide +kernel, rfl, by decide +kernel, by decide +kernel⟩
def spPRowA (K : PySem.W.Frag) : Sp := fun vs H Q _ => ∃ x b y d, vs = [x, y] ∧ Th K H x (bakD b) ∧ Th K H y d ∧ Q (.bl (prB b.lights.length b.goods.length d)) H
theorem okA_is_plan_row {f : Addr} {fd : FuncData} (F : Fun K "is_plan_row" "is_plan_row" s_is_plan_row f fd) (B : Bi mg) (D_is_tuple_of : Def P w K mg base "is_tuple_of" 1 ["thing", "many"] (spTupleOf K)) (D_is_place : Def P w K mg base "is_place" 2 ["thing", "many"] (spPlaceA K)) (D_is_whole : Def P w K mg base "is_whole" 1 ["thing"] (spWhole K)) : FnOk P w K mg base CX0 3 f fd ["bakery", "thing"] (spPRowA K) := by
  refine F.ok sc_is_plan_row (fun vs H Q E h => ?_) (fun cdv A outer s H vs Q E hr h => ?_)
  · obtain ⟨_, _, _, _, rfl, _⟩ := h
    rfl
  · obtain ⟨x, b, y, d, rfl, hx, hy, q⟩ := h
    refine ⟨_, (pss_cons (ps_if (pt_not (pt_val (pe_callD D_is_tuple_of hr (by rfl) (pa_cons (pv 1) (pa_cons pe_int pa_nil))))) (pss_one (ps_ret pe_bl)) pss_nil)
 (pss_cons (ps_asg (pv 0) (pg_tup rfl (pgs_cons (pg_name (i := 2) sc_is_plan_row.nd rfl (Or.inl rfl)) (pgs_cons (pg_name (i := 3) sc_is_plan_row.nd rfl (Or.inl rfl)) (pgs_cons (pg_name (i := 4) sc_is_plan_row.nd rfl (Or.inl rfl)) pgs_nil)))))
 (pss_cons (ps_asg (pv 1) (pg_tup rfl (pgs_cons (pg_name (i := 5) sc_is_plan_row.nd rfl (Or.inl rfl)) (pgs_cons (pg_name (i := 6) sc_is_plan_row.nd rfl (Or.inl rfl)) (pgs_cons (pg_name (i := 7) sc_is_plan_row.nd rfl (Or.inl rfl)) (pgs_cons (pg_name (i := 8) sc_is_plan_row.nd rfl (Or.inl rfl)) pgs_nil))))))
 (pss_cons (ps_set (i := 9) sc_is_plan_row.nd rfl (Or.inl rfl) (pe_callB call_lnL (by rfl) B.len (by decide +kernel) (pa_cons (pv 2) pa_nil)))
 (pss_cons (ps_set (i := 10) sc_is_plan_row.nd rfl (Or.inl rfl) (pe_and (pe_callD D_is_place hr (by rfl) (pa_cons (pv 5) (pa_cons (pv 9) pa_nil))) (pe_and (pe_callD D_is_place hr (by rfl) (pa_cons (pv 6) (pa_cons (pe_callB call_lnL (by rfl) B.len (by decide +kernel) (pa_cons (pv 4) pa_nil)) pa_nil))) (pe_one (pe_callD D_is_place hr (by rfl) (pa_cons (pv 7) (pa_cons (pv 9) pa_nil)))))))
 (pss_one (ps_ret (pe_and (pv 10) (pe_and (pe_callD D_is_whole hr (by rfl) (pa_cons (pv 8) pa_nil)) (pe_one (pe_cmpR op_ge (pv 8) pe_int (nomark _)))))))))))), ?_⟩
    obtain ⟨a, l, v2, ga, xl, xg, rfl, ht, hl, hla, h2, hgl, hga⟩ := Th.bak hx
    have hxl : xl.length = b.lights.length := by rw [hla.length, List.length_map]
    have hxg : xg.length = b.goods.length := by rw [hga.length, List.length_map]
    walk_at "wp"
    refine ⟨y, d, 4, rfl, hy, ?_⟩
    have no : tupB 4 d = false → prB b.lights.length b.goods.length d = false := by
      intro h
      match d, h with
      | .tuple [a, b, c, m], h => cases h
      | .tuple [], _ => rfl
      | .tuple [_], _ => rfl
      | .tuple [_, _], _ => rfl
      | .tuple [_, _, _], _ => rfl
      | .tuple (_ :: _ :: _ :: _ :: _ :: _), _ => rfl
      | .none, _ => rfl
      | .bool _, _ => rfl
      | .int _, _ => rfl
      | .str _, _ => rfl
      | .list _, _ => rfl
      | .dict _, _ => rfl
    cases h4 : tupB 4 d with
    | false =>
      rw [no h4] at q
      walk_at "wp"
      exact q
    | true =>
      cases hy with
      | @tup ta xs ds hs ha =>
        have h4 : ds.length = 4 := of_decide_eq_true h4
        obtain ⟨d1, d2, d3, d4, rfl⟩ : ∃ d1 d2 d3 d4, ds = [d1, d2, d3, d4] := by
          match ds, h4 with
          | [a, b, c, e], _ => exact ⟨a, b, c, e, rfl⟩
        cases ha with
        | @cons v1 _ _ _ t1 ha => cases ha with
        | @cons v2' _ _ _ t2 ha => cases ha with
        | @cons v3 _ _ _ t3 ha => cases ha with
        | @cons v4 _ _ _ t4 ha =>
        cases ha
        have e : prB b.lights.length b.goods.length (.tuple [d1, d2, d3, d4]) = ((plB b.lights.length d1 && (plB b.goods.length d2 && plB b.lights.length d3)) && posD d4) := rfl
        rw [e] at q
        walk_at "wp"
        refine ⟨_, ht, rfl, ?_⟩
        walk_at "wp"
        refine ⟨_, hs, rfl, ?_⟩
        walk_at "wp"
        refine ⟨_, hl, _, d1, xl.length, rfl, t1, ?_⟩
        rw [hxl]
        walk_at "wp"
        refine ite2 (fun h1 => ?_) (fun h1 => ?_)
        · refine ⟨_, hgl, _, d2, xg.length, rfl, t2, ?_⟩
          rw [hxg]
          walk_at "wp"
          refine ite2 (fun h2 => ?_) (fun h2 => ?_)
          · refine ⟨_, d3, b.lights.length, rfl, t3, _, rfl, ?_⟩
            refine ite2 (fun h3 => ?_) (fun h3 => ?_)
            · rw [h1, h2, h3, Bool.true_and, Bool.true_and, Bool.true_and] at q
              refine ⟨_, d4, rfl, t4, ?_⟩
              cases t4 with
              | int m =>
                simp only [wholeD]
                walk_at "wp"
                exact q
              | _ =>
                simp only [wholeD]
                walk_at "wp"
                exact q
            · rw [Bool.eq_false_iff.mpr h3, Bool.and_false, Bool.and_false, Bool.false_and] at q
              exact q
          · rw [Bool.eq_false_iff.mpr h2, Bool.false_and, Bool.and_false, Bool.false_and] at q
            exact q
        · rw [Bool.eq_false_iff.mpr h1, Bool.false_and, Bool.false_and] at q
          exact q
      | _ => cases h4
abbrev s_keeps_bound : Stmt := top 46
theorem sc_keeps_bound : FnScope ["bakery", "plan", "lights", "bound", "goods", "loaves", "baked", "good", "given", "many", "light"] ["bakery", "plan"] (defScope s_keeps_bound) := ⟨rfl, rfl, rfl, by decide +kernel, rfl, by decide +kernel, by decide +kernel⟩
def spKeepsB (K : PySem.W.Frag) : Sp := fun vs H Q _ => ∃ x b y L, vs = [x, y] ∧ Th K H x (bakD b) ∧ bakB (bakD b) = true ∧ Th K H y (planD L) ∧ L.length ≤ 500 ∧ (∀ r ∈ L, r.a < b.lights.length) ∧ ∀ H', Same H H' → Q (.bl (keepsB b L)) H'
def KbI (v0 v1 v2 v3 v4 : V) (D : Addr) (n : Nat) (zs : List (Addr × Row4)) (H : Hp) (i : Nat) (σ : L2.St) (H' : Hp) : Prop := ∃ (ms : List Int) (y6 y7 y8 y9 : Option V), σ = [some v0, some v1, some v2, some v3, some v4, some (.ref D), y6, y7, y8, y9, none] ∧ Same H H' ∧ H' D = some (.lst (ms.map V.int)) ∧ ms.length = n ∧ ∀ d, d < n → rowF ms d = loadR ((zs.take i).map (·.2)) d
theorem ok_keeps_bound {f : Addr} {fd : FuncData} (F : Fun K "keeps_bound" "keeps_bound" s_keeps_bound f fd) (B : Bi mg) : FnOk P w K mg base CX0 1 f fd ["bakery", "plan"] (spKeepsB K) := by
  refine F.ok sc_keeps_bound (fun vs H Q E h => ?_) (fun cdv A outer s H vs Q E hr h => ?_)
  · obtain ⟨_, _, _, _, rfl, _⟩ := h
    rfl
  · obtain ⟨x, b, y, L, rfl, hx, hb, hP, hLl, ha, q⟩ := h
    refine ⟨_, (pss_cons (ps_asg (pv 0) (pg_tup rfl (pgs_cons (pg_name (i := 2) sc_keeps_bound.nd rfl (Or.inl rfl)) (pgs_cons (pg_name (i := 3) sc_keeps_bound.nd rfl (Or.inl rfl)) (pgs_cons (pg_name (i := 4) sc_keeps_bound.nd rfl (Or.inl rfl)) pgs_nil)))))
 (pss_cons (ps_if (pt_cmpR op_isN (pv 3) pe_non (nomark _)) (pss_one (ps_ret pe_bl)) pss_nil)
 (pss_cons (ps_setLc (i := 5) (own := [("light", 10)]) (g := (gName 10)) rfl sc_keeps_bound.nd rfl rfl (sw_true rfl rfl rfl (by decide +kernel)) (pi_list (pv 2)) (blkOk_by (own := [("light", 10)]) (N := ["bakery", "plan", "lights", "bound", "goods", "loaves", "baked", "good", "given", "many", "light"]) (sc := defScope s_keeps_bound) (by decide +kernel)) (fun _ _ _ _ _ => (pg_name (i := 10) sc_keeps_bound.nd rfl (Or.inl rfl))) (fun _ _ _ _ _ => pts_nil) (fun _ _ _ _ _ => pe_int))
 (pss_cons (ps_for PassesOwn.never rfl (pi_list (pv 1)) (pg_tup rfl (pgs_cons (pg_name (i := 6) sc_keeps_bound.nd rfl (Or.inl rfl)) (pgs_cons (pg_name (i := 7) sc_keeps_bound.nd rfl (Or.inl rfl)) (pgs_cons (pg_name (i := 8) sc_keeps_bound.nd rfl (Or.inl rfl)) (pgs_cons (pg_name (i := 9) sc_keeps_bound.nd rfl (Or.inl rfl)) pgs_nil))))) (pss_one (ps_augS (pv 5) (pv 6) get_list (pv 9) ip_add set_list)))
 (pss_one (ps_ret (pe_cmpR op_le (pe_callB (cr_max rfl) (by rfl) B.max (by decide +kernel) (pa_cons (pv 5) pa_nil)) (pv 3) (nomark _)))))))), ?_⟩
    obtain ⟨⟨c1, c2⟩, c3, _, _, c7⟩ := bak_parts hb
    obtain ⟨a, l, v2, ga, xl, xg, rfl, ht, hl, hla, h2, hgl, hga⟩ := Th.bak hx
    have hxl : xl.length = b.lights.length := by rw [hla.length, List.length_map]
    obtain ⟨p, zs, rfl, hp, hz2, hz3⟩ := hP.plan
    have hzL : ∀ z ∈ zs, z.2 ∈ L := fun z hz => by rw [← hz2]; exact List.mem_map.mpr ⟨z, hz, rfl⟩
    have e2 : v2 = optV b.bound := h2.opt
    subst e2
    walk_at "wp"
    refine ⟨_, ht, rfl, ?_⟩
    walk_at "wp"
    unfold keepsB at q
    cases hbo : b.bound with
    | none =>
      rw [hbo] at q
      simp only [optV]
      walk_at "wp"
      exact q _ (Same.refl _)
    | some k =>
      rw [hbo] at q
      dsimp only at q
      simp only [optV]
      walk_at "wp"
      refine ⟨⟨_, hl⟩, fun D hD => ?_⟩
      refine LcR.map (walk_list (xs := xl)) (List.replicate xl.length (V.int 0)) hD (by rw [List.length_replicate]) (by omega) (fun H s => s.seq hl) (fun _ _ _ _ y => yat_same y) (fun i x y H0 H5 hi s5 yy hy R hR2 => ?_) (fun H5 s5 hH5 => ?_)
      · obtain ⟨rfl, hxi⟩ := yy
        rw [List.getElem?_replicate, if_pos hi] at hy
        cases hy
        walk_at "wp"
        exact hR2 _ (Same.refl _)
      · refine ⟨⟨_, s5.seq hp⟩, ?_⟩
        refine LoopR.by (walk_list (xs := zs.map fun z => V.ref z.1)) (KbI (.ref a) (.ref p) (.ref l) (.int k) (.ref ga) D b.lights.length zs H) ⟨List.replicate b.lights.length 0, none, none, none, none, rfl, s5, by rw [hH5, hxl]; simp, List.length_replicate, fun d hd => ?_⟩ (fun i σ H' _ hI => by obtain ⟨_, _, _, _, _, _, S, _⟩ := hI; exact S.seq hp) (fun i v σ H0 H3 hi hI yy => ?_) (fun σ H3 hI => ?_)
        · unfold rowF
          rw [List.getD_eq_getElem?_getD, List.getElem?_replicate, if_pos hd]
          rfl
        · obtain ⟨rfl, hxi⟩ := yy
          rw [List.length_map] at hi
          have hzi : zs[i]? = some zs[i] := List.getElem?_eq_getElem hi
          have hzm := List.getElem_mem hi
          rw [List.getElem?_map, hzi] at hxi
          cases hxi
          obtain ⟨ms, y6, y7, y8, y9, rfl, S3, E3, hml, hms⟩ := hI
          generalize zs[i] = z at hzi hzm
          have han := ha _ (hzL z hzm)
          walk_at "wp"
          refine ⟨_, Same.tup S3 (hz3 z hzm), rfl, ?_⟩
          walk_at "wp"
          refine ⟨_, _, SqL.of E3, atI_nat (rowF_get (by omega)), ?_⟩
          walk_at "wp"
          refine ⟨_, z.2.a, E3, by rw [List.length_map]; exact ixN_nat (by omega), ms.set z.2.a (rowF ms z.2.a + z.2.m), _, _, _, _, rfl, same_mut S3 hD, by rw [upd_same, map_set_int], by rw [List.length_set]; exact hml, fun d hd => ?_⟩
          rw [rowF_set (by omega), loadR_step hzi d, hms z.2.a han]
          by_cases e : z.2.a = d
          · rw [if_pos e, if_pos e, e]
          · rw [if_neg e, if_neg e, hms d hd, Int.add_zero]
        · obtain ⟨ms, y6, y7, y8, y9, rfl, S3, E3, hml, hms⟩ := hI
          rw [List.length_map, List.take_length, hz2] at hms
          walk_at "wp"
          refine ⟨D, ms, rfl, SqL.of E3, by omega, fun m hm hmax => ?_⟩
          walk_at "wp"
          have e : decide (m ≤ k) = (List.range b.lights.length).all fun d => decide (loadR L d ≤ k) := by
            rw [Bool.eq_iff_iff, decide_eq_true_iff, List.all_eq_true]
            constructor
            · intro hmk d hd
              have hd := List.mem_range.mp hd
              have e2 : rowF ms d ∈ ms := by
                rw [rowF, List.getD_eq_getElem?_getD, List.getElem?_eq_getElem (by omega)]
                exact List.getElem_mem _
              have := hmax _ e2
              rw [hms d hd] at this
              exact decide_eq_true (by omega)
            · intro h
              obtain ⟨d, hd, e⟩ := List.getElem_of_mem hm
              have e2 : rowF ms d = m := by rw [← e, rowF, List.getD_eq_getElem?_getD, List.getElem?_eq_getElem hd]; rfl
              rw [← e2, hms d (by omega)]
              exact of_decide_eq_true (h d (List.mem_range.mpr (by omega)))
          rw [e]
          exact q _ S3
abbrev s_fits : Stmt := top 47
theorem sc_fits : FnScope ["bakery", "thing", "sound", "row"] ["bakery", "thing"] (defScope s_fits) := ⟨rfl, rfl, rfl, by decide +kernel, rfl, by decide +kernel, by decide +kernel⟩
def spFitsX (K : PySem.W.Frag) : Sp := fun vs H Q _ => ∃ x b z d, vs = [x, z] ∧ Th K H x (bakD b) ∧ bakB (bakD b) = true ∧ ThX K H z d ∧ FewL d ∧ ∀ H', Same H H' → Q (.bl (fitPB b d)) H'
theorem okX_fits {f : Addr} {fd : FuncData} (F : Fun K "fits" "fits" s_fits f fd) (B : Bi mg) (D_look_at_bakery : Def P w K mg base "look_at_bakery" 6 ["thing"] (spLook K)) (D_is_plan_row : Def P w K mg base "is_plan_row" 3 ["bakery", "thing"] (spPRowA K)) (D_are_rising : Def P w K mg base "are_rising" 1 ["plan"] (spRising K)) (D_have_prices : Def P w K mg base "have_prices" 3 ["bakery", "plan"] (spHaveP K)) (D_meets_wants : Def P w K mg base "meets_wants" 1 ["bakery", "plan"] (spMeets K)) (D_keeps_bound : Def P w K mg base "keeps_bound" 1 ["bakery", "plan"] (spKeepsB K)) : FnOk P w K mg base CX0 7 f fd ["bakery", "thing"] (spFitsX K) := by
  refine F.ok sc_fits (fun vs H Q E h => ?_) (fun cdv A outer s H vs Q E hr h => ?_)
  · obtain ⟨_, _, _, _, rfl, _⟩ := h
    rfl
  · obtain ⟨x, b, z, d, rfl, hx, hb, hz, hfew, q⟩ := h
    refine ⟨_, (pss_cons (ps_expr (pe_callD D_look_at_bakery hr (by rfl) (pa_cons (pv 0) pa_nil)))
 (pss_cons (ps_if (PW.pt (pw_or (pt_not (pt_val (pe_callB (call_isDX .list) (by rfl) B.isinstance (by decide +kernel) (pa_cons (pv 1) (pa_cons (pe_bltn (v := .ty "list") (by rfl) B.list (by decide +kernel) rfl) pa_nil))))) (pw_or1 (pt_not (pt_val (pe_callB (cr_all rfl) (by rfl) B.all (by decide +kernel) (pa_cons (pe_lc (own := [("row", 3)]) (g := (gName 3)) rfl sc_fits.nd (pi_list (pv 1)) (blkOk_by (own := [("row", 3)]) (N := ["bakery", "thing", "sound", "row"]) (sc := defScope s_fits) (by decide +kernel)) (fun _ _ _ _ _ => (pg_name (i := 3) sc_fits.nd rfl (Or.inl rfl))) (fun _ _ _ _ _ => pts_nil) (fun _ _ _ _ _ => (pe_callD D_is_plan_row hr (by rfl) (pa_cons (pv 0) (pa_cons (pv 3) pa_nil))))) pa_nil))))))) (pss_one (ps_ret pe_bl)) pss_nil)
 (pss_cons (ps_set (i := 2) sc_fits.nd rfl (Or.inl rfl) (pe_and (pe_callD D_are_rising hr (by rfl) (pa_cons (pv 1) pa_nil)) (pe_one (pe_callD D_have_prices hr (by rfl) (pa_cons (pv 0) (pa_cons (pv 1) pa_nil))))))
 (pss_one (ps_ret (pe_and (pv 2) (pe_and (pe_callD D_meets_wants hr (by rfl) (pa_cons (pv 0) (pa_cons (pv 1) pa_nil))) (pe_one (pe_callD D_keeps_bound hr (by rfl) (pa_cons (pv 0) (pa_cons (pv 1) pa_nil))))))))))), ?_⟩
    walk_at "wp"
    refine ⟨_, _, rfl, hx, hb, fun H1 S1 => ?_⟩
    walk_at "wp"
    refine ⟨d, hz.same S1, ?_⟩
    cases hl : isD .list d with
    | false =>
      walk_at "wp"
      have e : fitPB b d = false := by
        cases d with
        | list ds => cases hl
        | _ => rfl
      rw [e] at q
      exact q _ S1
    | true =>
      cases hz with
      | one e t => cases hl
      | th t =>
      cases t with
      | @lst p xs ds hp ha =>
        walk_at "wp"
        refine ⟨⟨_, S1.seq hp⟩, fun D hD => ?_⟩
        have hdl5 := hfew ds rfl
        have hxl := ha.length
        refine LcR.map (walk_list (xs := xs)) ((ds.map (prB b.lights.length b.goods.length)).map V.bl) hD (by rw [List.length_map, List.length_map, hxl]) (by omega) (fun H s => (S1.trans s).seq hp) (fun _ _ _ _ y => yat_same y) (fun i v y H0 H2 hi s2 yy hy R hR => ?_) (fun H2 s2 hH => ?_)
        · obtain ⟨rfl, hxi⟩ := yy
          obtain ⟨d, hd, hxd⟩ := ha.get hxi
          rw [List.getElem?_map, List.getElem?_map, hd] at hy
          cases hy
          walk_at "wp"
          exact ⟨_, b, _, d, rfl, hx.same (S1.trans s2), hxd.same (S1.trans s2), hR _ (Same.refl _)⟩
        · have S2 := S1.trans s2
          refine ⟨ds.map (prB b.lights.length b.goods.length), SqL.of hH, ?_⟩
          have ea : (ds.map (prB b.lights.length b.goods.length)).all id = ds.all (prB b.lights.length b.goods.length) := by rw [List.all_map]; rfl
          rw [ea]
          have ef : fitPB b (.list ds) = (ds.all (prB b.lights.length b.goods.length) && fitP b (ds.map rowOf)) := rfl
          rw [ef] at q
          cases hall : ds.all (prB b.lights.length b.goods.length) with
          | false =>
            rw [hall] at q
            walk_at "wp"
            exact q _ S2
          | true =>
            rw [hall, Bool.true_and] at q
            obtain ⟨L, rfl, hL⟩ := prB_rows hall
            rw [rowOf_map] at q
            rw [List.length_map] at hdl5
            have hP : Th K H (.ref p) (planD L) := .lst hp ha
            walk_at "wp"
            refine ⟨_, L, rfl, hP.same S2, hdl5, fun H4 S4 => ⟨_, rfl, ?_⟩⟩
            have T4 := S2.trans S4
            unfold fitP at q
            have hr2 : ∀ r ∈ L, r.a < b.lights.length ∧ r.b < b.goods.length ∧ r.c < b.lights.length := fun r hr => ⟨(hL r hr).a, (hL r hr).b, (hL r hr).c⟩
            have no : ∀ {c : Bool}, c = false → ∀ {x y : Bool}, ((c && x) && y) = false := by
              intro c h x y
              rw [h, Bool.false_and, Bool.false_and]
            refine ite2 (fun h => ?_) (fun h => ?_)
            · rw [h, Bool.true_and] at q
              refine ⟨_, b, _, L, rfl, hx.same T4, hb, hP.same T4, hdl5, hr2, fun H5 S5 => ⟨_, rfl, ?_⟩⟩
              have T5 := T4.trans S5
              refine ite2 (fun h2 => ?_) (fun h2 => ?_)
              · rw [h2, Bool.true_and] at q
                refine ⟨_, b, _, L, rfl, hx.same T5, hb, hP.same T5, hdl5, fun r hr => ⟨(hr2 r hr).2.1, (hr2 r hr).2.2⟩, fun H6 S6 => ⟨_, rfl, ?_⟩⟩
                have T6 := T5.trans S6
                refine ite2 (fun h3 => ?_) (fun h3 => ?_)
                · rw [h3, Bool.true_and] at q
                  exact ⟨_, b, _, L, rfl, hx.same T6, hb, hP.same T6, hdl5, fun r hr => (hr2 r hr).1, fun H7 S7 => q _ (T6.trans S7)⟩
                · rw [Bool.eq_false_iff.mpr h3, Bool.false_and] at q
                  exact q _ T6
              · rw [Bool.eq_false_iff.mpr h2, Bool.false_and] at q
                exact q _ T5
            · rw [no (Bool.eq_false_iff.mpr h)] at q
              exact q _ T4
      | _ => cases hl
end
end Bk

namespace Bk
open PySem PySem.Spec PyProof.Rows L2
local macro_rules | `(tactic| walk_at "wp") => `(tactic| try simp only [tScT2, rSetOf2_r, rSorDT_r, rSetD, tDGet2, tDGet, tDNewT, cxW, rExtend_r, rSortU_r, rSetOf_r, rSortedSet_r, rNinr_r, rNeN_r, rCatL_r, rSlT_r, rListOf_r, rIsB_b, rNotB_b, tFmtO, tJs, tOst, tCallS, WE, tRaise2, rOne_i, rSorD_r, tDNewK, Int.zero_add, tNever, tFor_eq, tLc_eq, iList, iTup, iRng1_eq, rRng1_i, iRng2_eq, rRng2_i, iEnum_eq, rEnum_r, iZip_eq, rZip_r, tSl, tPart, tNoPart, rSlL_r, rCat_r, rIn_r, rNin_r, rRepr_r, iRevR, rMin_r, rShr_i, rOdd_i, rSetL_r, gSub, rRg1_i, rRg2_i, rInr_r, tAug, ipI_ii, tLstRg, tRg1, tRg2, gTup_r, gUnl_r, rInt1_b, rInt1_i, rRep_r, tStep_r, scal, tSeq, tNext, tAsg, tRet, tRetN, tIfS, tDrop, tCB, tCons, tNil, tVar, tOp, tUn, tC, rU_i, rI_ii, rI0_ii, rEq, rNe, tTest, tB, tAnd, tOr, tNot, tAndV, tOrV, tNotV, tIf, tChain, tLst, tTup, tBM, tBM0, rAppend_r, rIxL_r, rIxT_r, rMx_ii, rMn_ii, rLnL_r, rLnT_r, rIsD_int, rIsD_bool, rIsD_list, rIsD_tuple, tCall, gName, gNil_n, gCons_c, cxK, L2.start, List.map, List.replicate, List.length_cons, List.length_nil, List.cons_append, List.nil_append, List.append_nil, List.getElem?_cons_zero, List.getElem?_cons_succ, Option.some.injEq, exists_eq_left', exists_eq_left, V.int.injEq, V.bl.injEq, V.str.injEq, V.ref.injEq, List.cons.injEq, and_true, true_and, and_self, List.set, wipe, rAll_r, rSum_r, reduceCtorEq, decide_true, decide_false, reduceIte, ite_true, ite_false, if_true, if_false, Bool.false_eq_true, Bool.not_true, Bool.not_false])
local macro_rules | `(tactic| walk_at "shaped") => `(tactic| (simp only [SeqAt.shaped, PyData.canLay0, PyData.canLayAll0, PyData.depth, PyData.depthAll]; rfl))
local macro_rules | `(tactic| walk_at "lay") => `(tactic| (simp only [PyData.canLay0, PyData.canLayAll0]; rfl))
local macro_rules | `(tactic| walk_at "wg") => `(tactic| try simp only [gName, gTup_r, gCons_c, gNil_n, cxK, List.set, List.cons.injEq, and_true, true_and, exists_eq_left', exists_eq_left, List.length_cons, List.length_nil])
section
variable {P : Program} {w : World} {K : PySem.W.Frag} {mg : Str → Option Value} {base : Heap}
abbrev s_later : Stmt := top 74
theorem sc_later : FnScope ["_law_cell"] ["_law_cell"] (defScope s_later) := ⟨rfl, rfl, rfl, by decide +kernel, rfl, by decide +kernel, by decide +kernel⟩
def spLater (K : PySem.W.Frag) : Sp := fun vs H Q _ => ∃ c : Int, vs = [.int c] ∧ ∀ (H' : Hp) (z : Int), Same H H' → Q (.int z) H'
theorem ok_later {f : Addr} {fd : FuncData} (F : Fun K "_law_later" "_law_later" s_later f fd) (B : Bi mg) : FnOk P w K mg base CX0 1 f fd ["_law_cell"] (spLater K) := by
  refine F.ok sc_later (fun vs H Q E h => ?_) (fun cdv A outer s H vs Q E hr h => ?_)
  · obtain ⟨_, rfl, _⟩ := h
    rfl
  · obtain ⟨c, rfl, q⟩ := h
    refine ⟨_, (pss_one (ps_ret (pe_op op_fdivW (pv 0) (pe_ix ix_list (pe_lst (pa_cons pe_int (pa_cons (pe_op op_pow pe_int pe_int) pa_nil))) (pe_callTy call_in1 (by rfl) B.int (by decide +kernel) (pa_cons (pe_cmpR op_ge (pv 0) (pe_op op_pow pe_int pe_int) (nomark _)) pa_nil)) (fun _ _ => rfl))))), ?_⟩
    walk_at "wp"
    refine ⟨⟨by decide, by decide, by decide⟩, sz100 (by decide), fun p hp => ⟨⟨by decide, by decide, by decide⟩, _, .int (if decide (10 ^ Int.toNat 63 ≤ c) = true then 10 ^ Int.toNat 45 else 1), SqL.of upd_same, ?_, ?_⟩⟩
    · split <;> rfl
    · walk_at "wp"
      refine ⟨wide_div (b := 200) (by split <;> decide) (by split <;> decide +kernel) (by decide) (by decide), q _ _ (same_upd hp)⟩
abbrev s_doughs : Stmt := top 73
theorem sc_doughs : FnScope ["_law_script", "_law_many", "_law_salt", "_law_wide", "_law_found", "_law_day_here", "_law_cell", "_law_digits"] ["_law_script", "_law_many", "_law_salt"] (defScope s_doughs) := ⟨rfl, rfl, rfl, by decide +kernel, rfl, by decide +kernel, by decide +kernel⟩
def spDghs (K : PySem.W.Frag) : Sp := fun vs H Q _ => ∃ (a : Addr) (ns : List Int) (n : Nat) (s : Int), vs = [.ref a, .int (n : Int), .int s] ∧ SqL K H a (ns.map V.int) ∧ n ≤ 40 ∧ 0 ≤ s ∧ s ≤ 10000 ∧
  ∀ (H' : Hp) (p : Addr) (ds : List Dgh), Same H H' → Tk (newOf H H') (.ref p) (doughsD ds) → ds.length = n → (∀ d ∈ ds, dghB (dghD d) = true) → Q (.ref p) H'
structure DgI (H H0 : Hp) (a : Addr) (n : Nat) (s : Int) (wide : Bool) (L : Addr) (i : Nat) (σ : L2.St) (H' : Hp) : Prop where
  ex : ∃ (ds : List Dgh) (xs : List V) (y5 y6 y7 : Option V), σ = [some (.ref a), some (.int (n : Int)), some (.int s), some (.bl wide), some (.ref L), y5, y6, y7] ∧
    Same H0 H' ∧ H' L = some (.lst xs) ∧ TkAll (newBut H L L H') xs (ds.map dghD) ∧ ds.length = i ∧ ∀ d ∈ ds, dghB (dghD d) = true
theorem ok_doughs {f : Addr} {fd : FuncData} (F : Fun K "_law_doughs" "_law_doughs" s_doughs f fd) (B : Bi mg) (D_numbers : Def P w K mg base "_law_numbers" 1 ["_law_cell", "_law_salt", "_law_sizes"] (spNumbers K)) (D_cell_at : Def P w K mg base "_law_cell_at" 1 ["_law_script", "_law_k"] (spCellAt K)) (D_later : Def P w K mg base "_law_later" 1 ["_law_cell"] (spLater K)) : FnOk P w K mg base CX0 2 f fd ["_law_script", "_law_many", "_law_salt"] (spDghs K) := by
  refine F.ok sc_doughs (fun vs H Q E h => ?_) (fun cdv A outer s H vs Q E hr h => ?_)
  · obtain ⟨_, _, _, _, rfl, _⟩ := h
    rfl
  · obtain ⟨a, ns, n, s, rfl, hS, hn, hs0, hs1, q⟩ := h
    refine ⟨_, (pss_cons (ps_set (i := 3) sc_doughs.nd rfl (Or.inl rfl) (pe_cmpR op_eq (pe_ix ix_list (pe_callD D_numbers hr (by rfl) (pa_cons (pe_callD D_cell_at hr (by rfl) (pa_cons (pv 0) (pa_cons pe_int pa_nil))) (pa_cons (pv 2) (pa_cons (pe_lst (pa_cons pe_int pa_nil)) pa_nil)))) pe_int (fun _ _ => rfl)) pe_int (nomark _)))
 (pss_cons (ps_set (i := 4) sc_doughs.nd rfl (Or.inl rfl) (pe_lst pa_nil))
 (pss_cons (ps_for PassesOwn.never rfl (pi_range1 (by rfl) B.range (pa_cons (pv 1) pa_nil)) (pg_name (i := 5) sc_doughs.nd rfl (Or.inl rfl)) (pss_cons (ps_set (i := 6) sc_doughs.nd rfl (Or.inl rfl) (pe_callD D_later hr (by rfl) (pa_cons (pe_callD D_cell_at hr (by rfl) (pa_cons (pv 0) (pa_cons (pe_op op_add pe_int (pv 5)) pa_nil))) pa_nil)))
 (pss_cons (ps_set (i := 7) sc_doughs.nd rfl (Or.inl rfl) (pe_callD D_numbers hr (by rfl) (pa_cons (pv 6) (pa_cons (pe_op op_add (pe_op op_add (pv 2) pe_int) (pv 5)) (pa_cons (pe_ix ix_list (pe_lst (pa_cons (pe_lst (pa_cons pe_int (pa_cons pe_int (pa_cons pe_int pa_nil)))) (pa_cons (pe_op op_rep (pe_lst (pa_cons (pe_op op_add (pe_op op_pow pe_int pe_int) pe_int) pa_nil)) pe_int) pa_nil))) (pe_callTy call_in1 (by rfl) B.int (by decide +kernel) (pa_cons (pv 3) pa_nil)) (fun _ _ => rfl)) pa_nil)))))
 (pss_one (ps_expr (pe_bm PySem.F.plainAttrs_list PySem.F.slot_list_append PySem.F.type_list_append mt_append (pv 4) (pa_cons (pe_callTy call_tuple_of (by rfl) B.tuple (by decide +kernel) (pa_cons (pv 7) pa_nil)) pa_nil)))))))
 (pss_one (ps_ret (pv 4)))))), ?_⟩
    walk_at "wp"
    refine ⟨a, ns, 0, rfl, hS, fun c => ⟨sz100 (by decide), fun p1 h1 => ?_⟩⟩
    refine ⟨c, s, p1, [3], rfl, SqL.of upd_same, hs0, by omega, by decide, by decide, fun H1 pd fs S1 hpd hD hfs => ?_⟩
    have S1 := (same_upd h1).trans S1
    obtain ⟨f0, rfl⟩ : ∃ f0, fs = [f0] := by
      match fs, hD.1 with
      | [f0], _ => exact ⟨f0, rfl⟩
    clear hD hpd h1
    walk_at "wp"
    refine ⟨_, _, SqL.of hfs, atI_nat (j := 0) rfl, ?_⟩
    walk_at "wp"
    refine ⟨Nat.zero_le _, fun L hL => ⟨by omega, by omega, ?_⟩⟩
    rw [Int.toNat_natCast]
    refine LoopR.by walk_range (DgI H H1 a n s (decide (f0 = 0)) L) ⟨⟨[], [], none, none, none, rfl, same_upd hL, upd_same, .nil, rfl, fun _ h => nomatch h⟩⟩ (fun _ _ _ _ _ => trivial) (fun i v σ H0 H' hi hI hY => ?_) (fun σ H' hI => ?_)
    · obtain ⟨rfl, rfl⟩ := hY
      obtain ⟨ds, xs, y5, y6, y7, rfl, S2, E2, hT, hdl, hok⟩ := hI.ex
      walk_at "wp"
      refine ⟨a, ns, 1 + i, congrArg (fun z => [V.ref a, V.int z]) (by omega), (S1.trans S2).seq hS, fun c => ?_⟩
      refine ⟨c, rfl, fun H3 z S3 => ?_⟩
      walk_at "wp"
      refine ⟨sz100 (by decide), fun p2 h2 => ⟨⟨by decide, by decide, by decide⟩, sz100 (by decide), fun p3 h3 => ?_⟩⟩
      have S4 := same_upd (o := .lst [V.int 13, V.int 5, V.int 4]) h2
      have E4 : upd H3 p2 (.lst [V.int 13, V.int 5, V.int 4]) p2 = some (.lst ([13, 5, 4].map V.int)) := upd_same
      generalize upd H3 p2 (.lst [V.int 13, V.int 5, V.int 4]) = H4 at S4 E4 h3 ⊢
      have S5 := same_upd (o := .lst [V.int (10 ^ Int.toNat 9 + 1)]) h3
      have E5 : upd H4 p3 (.lst [V.int (10 ^ Int.toNat 9 + 1)]) p3 = some (.lst [V.int (10 ^ Int.toNat 9 + 1)]) := upd_same
      generalize upd H4 p3 (.lst [V.int (10 ^ Int.toNat 9 + 1)]) = H5 at S5 E5 ⊢
      refine ⟨_, E5, by decide, by decide, sz100 (by show 1 * 3 ≤ 100000; decide), fun p4 h4 => ⟨sz100 (by decide), fun p5 h5 => ?_⟩⟩
      have S6 := same_upd (o := .lst (List.replicate (Int.toNat 3) [V.int (10 ^ Int.toNat 9 + 1)]).flatten) h4
      have E6 : upd H5 p4 (.lst (List.replicate (Int.toNat 3) [V.int (10 ^ Int.toNat 9 + 1)]).flatten) p4 = some (.lst ([1000000001, 1000000001, 1000000001].map V.int)) := upd_same
      generalize upd H5 p4 (.lst (List.replicate (Int.toNat 3) [V.int (10 ^ Int.toNat 9 + 1)]).flatten) = H6 at S6 E6 h5 ⊢
      have S7 := same_upd (o := .lst [V.ref p2, V.ref p4]) h5
      have E7 : upd H6 p5 (.lst [V.ref p2, V.ref p4]) p5 = some (.lst [V.ref p2, V.ref p4]) := upd_same
      generalize upd H6 p5 (.lst [V.ref p2, V.ref p4]) = H7 at S7 E7 ⊢
      have hpick : ∃ (pz : Addr) (z5 : List Int), atI [V.ref p2, V.ref p4] (if decide (f0 = 0) = true then 1 else 0) = some (V.ref pz) ∧ H7 pz = some (.lst (z5.map V.int)) ∧ z5.length = 3 ∧ ∀ z ∈ z5, 0 < z ∧ z ≤ 1000000001 := by
        cases decide (f0 = 0) with
        | false => exact ⟨p2, _, rfl, (S5.trans (S6.trans S7)) _ _ E4, rfl, by decide⟩
        | true => exact ⟨p4, _, rfl, S7 _ _ E6, rfl, by decide⟩
      obtain ⟨pz, z5, hz1, hz2, hz3, hz4⟩ := hpick
      refine ⟨_, _, SqL.of E7, hz1, ?_⟩
      refine ⟨z, s + 40 + (i : Int), pz, z5, rfl, SqL.of hz2, by omega, by omega, by omega, fun y hy => ⟨(hz4 y hy).1, ?_⟩, fun H8 pe fs S8 hpe hDg hfs => ?_⟩
      · have := hz4 y hy
        exact Nat.lt_of_le_of_lt (show y.natAbs ≤ 1000000001 by omega) (by decide)
      have hf3 : fs.length = 3 := hDg.1.trans hz3
      obtain ⟨f1, f2, f3, rfl⟩ : ∃ f1 f2 f3, fs = [f1, f2, f3] := by
        match fs, hf3 with
        | [a, b, c], _ => exact ⟨a, b, c, rfl⟩
      have hbd : ∀ f ∈ [f1, f2, f3], 0 ≤ f ∧ f ≤ 1000000000 := fun f hf => by
        obtain ⟨j, hj, e⟩ := List.getElem_of_mem hf
        have h1 : j < z5.length := by rw [hz3]; exact hj
        have h2 := hDg.2 j f z5[j] (by rw [List.getElem?_eq_getElem hj, e]) (List.getElem?_eq_getElem h1)
        have h3 := hz4 _ (List.getElem_mem h1)
        omega
      have T := S3.trans (S4.trans (S5.trans (S6.trans (S7.trans S8))))
      have E8 := T _ _ E2
      refine ⟨tyL (SqL.of E8), pe, _, rfl, .inl ⟨SqL.of hfs, fun t ht => ?_⟩⟩
      have htL : t ≠ L := fun z => by rw [z, E8] at ht; cases ht
      have S9 := same_upd (o := .tup ([f1, f2, f3].map V.int)) ht
      have E9 : upd H8 t (.tup ([f1, f2, f3].map V.int)) t = some (.tup ([f1, f2, f3].map V.int)) := upd_same
      generalize upd H8 t (.tup ([f1, f2, f3].map V.int)) = H9 at S9 E9 ⊢
      walk_at "wp"
      have EL := S9 _ _ E8
      have hxl : xs.length = i := by rw [hT.length, List.length_map, hdl]
      refine ⟨_, EL, sz100l (by omega), ⟨ds ++ [⟨f1, f2, f3⟩], _, _, _, _, rfl, same_mut (S2.trans (T.trans S9)) hL, upd_same, ?_, by rw [List.length_append, hdl]; rfl, ?_⟩⟩
      · rw [List.map_append]
        have htn : H t = none := (S1.trans (S2.trans T)).free ht
        refine (hT.same (newBut_mono fun b o h1 _ e => ?_)).append (.cons (.tup (newBut_at htn htL htL (by rw [upd_ne htL]; exact E9)) (.cons (.int _) (.cons (.int _) (.cons (.int _) .nil)))) .nil)
        rw [upd_ne h1]
        exact S9 _ _ (T _ _ e)
      · intro d hd
        rcases List.mem_append.mp hd with h | h
        · exact hok d h
        · rw [List.mem_singleton.mp h]
          have e1 := hbd f1 (by simp)
          have e2 := hbd f2 (by simp)
          have e3 := hbd f3 (by simp)
          simp only [dghD, dghB, numD_of e1, numD_of e2, numD_of e3, Bool.and_self]
    · obtain ⟨ds, xs, y5, y6, y7, rfl, S2, E2, hT, hdl, hok⟩ := hI.ex
      walk_at "wp"
      refine q _ _ ds (S1.trans S2) (.lst (newOf_at (S1.free hL) E2) (hT.same (newBut_same _ _ _ _))) hdl hok
abbrev s_unmixed : Stmt := top 78
theorem sc_unmixed : FnScope ["_law_plan", "_law_found", "_law_mixed", "_law_baked", "_law_given", "_law_many", "_law_key"] ["_law_plan"] (defScope s_unmixed) := ⟨rfl, rfl, rfl, by decide +kernel, rfl, by decide +kernel, by decide +kernel⟩
def spUnm (K : PySem.W.Frag) : Sp := fun vs H Q _ => ∃ z L, vs = [z] ∧ Th K H z (planD L) ∧ (∀ r ∈ L, 0 < r.m) ∧ L.length ≤ 60 ∧ ∀ (H' : Hp) (p : Addr) (es : E3), Same H H' → Th K H' (.ref p) (planD (es.map rowE)) → UnOf L es → (es.map fun e => keyI3 e.1).Pairwise (· ≤ ·) → Q (.ref p) H'
def UnI (v0 : V) (D : Addr) (zs : List (Addr × Row4)) (H : Hp) (i : Nat) (σ : L2.St) (H' : Hp) : Prop := ∃ (es : E3) (y2 y3 y4 y5 : Option V), σ = [some v0, some (.ref D), y2, y3, y4, y5, none] ∧ Same H H' ∧ H' D = some (.dT (mk3 es)) ∧ UnOf ((zs.take i).map (·.2)) es
theorem ok_unmixed {f : Addr} {fd : FuncData} (F : Fun K "_law_unmixed" "_law_unmixed" s_unmixed f fd) (B : Bi mg) (Bs : mg "sorted" = none) : FnOk P w K mg base CX0 1 f fd ["_law_plan"] (spUnm K) := by
  refine F.ok sc_unmixed (fun vs H Q E h => ?_) (fun cdv A outer s H vs Q E hr h => ?_)
  · obtain ⟨_, _, rfl, _⟩ := h
    rfl
  · obtain ⟨x, L, rfl, hP, hpos, hL, q⟩ := h
    refine ⟨_, (pss_cons (ps_set (i := 1) sc_unmixed.nd rfl (Or.inr rfl) pe_dnewT)
 (pss_cons (ps_for PassesOwn.never rfl (pi_list (pv 0)) (pg_tup rfl (pgs_cons (pg_name (i := 2) sc_unmixed.nd rfl (Or.inl rfl)) (pgs_cons (pg_name (i := 3) sc_unmixed.nd rfl (Or.inl rfl)) (pgs_cons (pg_name (i := 4) sc_unmixed.nd rfl (Or.inl rfl)) (pgs_cons (pg_name (i := 5) sc_unmixed.nd rfl (Or.inl rfl)) pgs_nil))))) (pss_one (ps_asg (pe_op op_add (pe_dget2 (Nat.lt_of_le_of_lt (Nat.add_le_add_left (show 1 ≤ 64 by decide) _) hr.units) (pv 1) (pe_tup (pa_cons (pv 3) (pa_cons pe_int (pa_cons (pv 4) pa_nil)))) pe_int ⟨by rfl, by rfl, by rfl, by rfl⟩) (pv 5)) (pg_sub (pv 1) (pe_tup (pa_cons (pv 3) (pa_cons pe_int (pa_cons (pv 4) pa_nil)))) (set_dict (Nat.lt_of_le_of_lt (Nat.add_le_add_left (show 1 ≤ 64 by decide) _) hr.units))))))
 (pss_one (ps_ret (pe_lc (own := [("_law_key", 6)]) (g := (gName 6)) rfl sc_unmixed.nd (pi_list (pe_callB (cr_sorDT rfl hr.units) (by rfl) Bs (by decide +kernel) (pa_cons (pv 1) pa_nil))) (blkOk_by (own := [("_law_key", 6)]) (N := ["_law_plan", "_law_found", "_law_mixed", "_law_baked", "_law_given", "_law_many", "_law_key"]) (sc := defScope s_unmixed) (by decide +kernel)) (fun _ _ _ _ _ => (pg_name (i := 6) sc_unmixed.nd rfl (Or.inl rfl))) (fun _ _ _ _ _ => pts_nil) (fun _ _ _ _ _ => (pe_op (op_catTK (K := K) rfl) (pv 6) (pe_tup (pa_cons (pe_dget (Nat.lt_of_le_of_lt (Nat.add_le_add_left (show 1 ≤ 64 by decide) _) hr.units) (pv 1) (pv 6) (fun _ _ => rfl)) pa_nil))))))))), ?_⟩
    obtain ⟨p, zs, rfl, hp, hz2, hz3⟩ := hP.plan
    have hzl : zs.length = L.length := by rw [← hz2, List.length_map]
    walk_at "wp"
    intro D hD
    have S1 := same_upd (o := .dT []) hD
    have E1 : upd H D (.dT []) D = some (.dT (mk3 [])) := upd_same
    generalize upd H D (.dT []) = H1 at S1 E1 ⊢
    refine ⟨⟨_, S1.seq hp⟩, ?_⟩
    refine LoopR.by (walk_list (xs := zs.map fun z => V.ref z.1)) (UnI (.ref p) D zs H) ⟨[], none, none, none, none, rfl, S1, E1, UnOf.nil⟩ (fun i σ H' _ hI => by obtain ⟨_, _, _, _, _, _, S, _⟩ := hI; exact S.seq hp) (fun i v σ H0 H2 hi hI yy => ?_) (fun σ H2 hI => ?_)
    · obtain ⟨rfl, hxi⟩ := yy
      rw [List.length_map] at hi
      rw [List.getElem?_map, List.getElem?_eq_getElem hi] at hxi
      cases hxi
      obtain ⟨es, y2, y3, y4, y5, rfl, S2, E2, hU⟩ := hI
      have hzm := List.getElem_mem hi
      have hzi : zs[i]? = some zs[i] := List.getElem?_eq_getElem hi
      generalize zs[i] = z at hzm hzi
      have hm : 0 < z.2.m := hpos _ (by rw [← hz2]; exact List.mem_map.mpr ⟨z, hzm, rfl⟩)
      have hel : es.length ≤ 60 := by
        have := hU.len
        rw [List.length_map, List.length_take] at this
        omega
      walk_at "wp"
      refine ⟨_, Same.tup S2 (hz3 z hzm), rfl, ?_⟩
      walk_at "wp"
      refine ⟨.inr ⟨_, .inl E2⟩, sz100 (by decide), fun k1 hk1 => ?_⟩
      have S3 := same_upd (o := .tup [V.int (z.2.b : Int), V.int 0, V.int (z.2.c : Int)]) hk1
      have G1 : upd H2 k1 (.tup [V.int (z.2.b : Int), V.int 0, V.int (z.2.c : Int)]) k1 = some (.tup ((key3 (unm z.2)).map kV)) := upd_same
      have E3 := S3 _ _ E2
      generalize upd H2 k1 (.tup [V.int (z.2.b : Int), V.int 0, V.int (z.2.c : Int)]) = H3 at S3 G1 E3 ⊢
      refine ⟨_, DGet.t E3 G1, ?_⟩
      rw [mk3_val]
      have e0 : ((look3 es (unm z.2)).map V.int).getD (.int 0) = V.int ((look3 es (unm z.2)).getD 0) := by cases look3 es (unm z.2) <;> rfl
      rw [e0]
      walk_at "wp"
      refine ⟨sz100 (by decide), fun k2 hk2 => ?_⟩
      have S4 := same_upd (o := .tup [V.int (z.2.b : Int), V.int 0, V.int (z.2.c : Int)]) hk2
      have G2 : upd H3 k2 (.tup [V.int (z.2.b : Int), V.int 0, V.int (z.2.c : Int)]) k2 = some (.tup ((key3 (unm z.2)).map kV)) := upd_same
      have E4 := S4 _ _ E3
      generalize upd H3 k2 (.tup [V.int (z.2.b : Int), V.int 0, V.int (z.2.c : Int)]) = H4 at S4 G2 E4 ⊢
      refine ⟨D, _, rfl, DPut.t E4 G2 (by rw [mk3_len]; exact sz100l (by omega)), ?_⟩
      rw [mk3_put]
      refine ⟨add3 es (unm z.2) z.2.m, _, _, _, _, rfl, same_mut (S2.trans (S3.trans S4)) hD, upd_same, ?_⟩
      rw [List.take_add_one, hzi, List.map_append]
      exact hU.add hm
    · obtain ⟨es, y2, y3, y4, y5, rfl, S2, E2, hU⟩ := hI
      rw [List.length_map, List.take_length, hz2] at hU
      have hel := hU.len
      walk_at "wp"
      refine ⟨_, es.map (fun e => keyI3 e.1), E2, mk3_keys es, (fun k hk => by obtain ⟨e, _, rfl⟩ := List.mem_map.mp hk; exact fun z => nomatch z), fun M p2 hperm hpw hM hp2 => ?_⟩
      obtain ⟨fs, hfp, hMf⟩ := keys_back hperm
      have hUf := hU.perm hfp
      have S3 := same_upd (o := .lst (M.map fun q => V.ref q.1)) hp2
      have E3 : upd H2 p2 (.lst (M.map fun q => V.ref q.1)) p2 = some (.lst (M.map fun q => V.ref q.1)) := upd_same
      have E4 := S3 _ _ E2
      have hM3 : ∀ q ∈ M, upd H2 p2 (.lst (M.map fun q => V.ref q.1)) q.1 = some (.tup (q.2.map V.int)) := fun q hq => S3 _ _ (hM q hq)
      generalize upd H2 p2 (.lst (M.map fun q => V.ref q.1)) = H3 at S3 E3 E4 hM3 ⊢
      have hml : M.length = fs.length := by
        have := congrArg List.length hMf
        rw [List.length_map, List.length_map] at this
        exact this
      have hfl := hUf.len
      refine ⟨⟨_, SqL.of E3⟩, fun D2 hD2 => ?_⟩
      refine LcR.build (H := H) (walk_list (xs := M.map fun q => V.ref q.1)) ((fs.map rowE).map rowD) hD2 (by rw [List.length_map, List.length_map, List.length_map, hml]) (by rw [List.length_map]; omega) (fun H s => s.seq (SqL.of E3)) (fun _ _ _ _ y => yat_same y) (fun j x e H0 H5 hj s5 hacc yy he R hR => ?_) (fun H5 acc s5 ea ta => ?_)
      · obtain ⟨rfl, hxj⟩ := yy
        obtain ⟨acc, eacc⟩ := hacc
        rw [List.length_map] at hj
        have hMj : M[j]? = some M[j] := List.getElem?_eq_getElem hj
        have hMm := List.getElem_mem hj
        have hfj : fs[j]? = some (fs[j]'(by omega)) := List.getElem?_eq_getElem (by omega)
        have hfm : fs[j]'(by omega) ∈ fs := List.getElem_mem (by omega)
        have hq : (M[j]).2 = keyI3 (fs[j]'(by omega)).1 := by
          have := congrArg (·[j]?) hMf
          simp only [List.getElem?_map, hMj, hfj, Option.map_some, Option.some.injEq] at this
          exact this
        rw [List.getElem?_map, hMj] at hxj
        cases hxj
        rw [List.getElem?_map, List.getElem?_map, hfj] at he
        cases he
        generalize M[j] = q at hMm hq
        generalize fs[j]'(by omega) = e0 at hq hfm hR
        have hqt := s5 _ _ (hM3 q hMm)
        rw [hq] at hqt
        have hlk : look3 es e0.1 = some e0.2 := look3_mem hU.nd (hfp.mem_iff.mp hfm)
        walk_at "wp"
        refine ⟨D, .int e0.2, rfl, ?_, sz100 (by decide), fun p6 h6 => ?_⟩
        · have := DGet.t (s5 _ _ E4) (k := key3 e0.1) (b := q.1) hqt
          rw [mk3_val, hlk] at this
          exact this
        · have S6 := same_upd (o := .tup [V.int e0.2]) h6
          have E6 : upd H5 p6 (.tup [V.int e0.2]) p6 = some (.tup [V.int e0.2]) := upd_same
          have hqt := S6 _ _ hqt
          have ec := S6 _ _ eacc
          generalize upd H5 p6 (.tup [V.int e0.2]) = H6 at S6 E6 hqt ec ⊢
          refine rCatT_r (SqT.of hqt) (SqT.of E6) (by simp [keyI3]) (by simp) (by simp [keyI3]; exact sz100 (by decide)) fun p7 h7 => ?_
          have S7 := same_upd (o := .tup ((keyI3 e0.1).map V.int ++ [V.int e0.2])) h7
          refine hR _ _ (S6.trans S7) ?_
          have np : p7 ≠ D2 := fun z => by rw [z, ec] at h7; cases h7
          exact .tup (newBut_at (S2.free (S3.free (s5.free (S6.free h7)))) np np upd_same) (.cons (.int _) (.cons (.int _) (.cons (.int _) (.cons (.int _) .nil))))
      · have SA := S2.trans (S3.trans s5)
        have hT : Tk (newOf H H5) (.ref D2) (planD (fs.map rowE)) := .lst (newOf_at (S2.free (S3.free hD2)) ea) (ta.same (newBut_same _ _ _ _))
        exact q _ _ fs SA ((hT.same (newOf_same _ _)).th) hUf (by rw [← hMf]; exact List.pairwise_map.mpr hpw)
end
end Bk

namespace Bk
open PySem PySem.Spec PyProof.Rows L2
local macro_rules | `(tactic| walk_at "wp") => `(tactic| try simp only [rReprM_r, rMinN_r, tCKw, iZip3_eq, rZip3_r, iRng3_eq, rRng3_i, rNeN_r, tAugS, rIsDX_list, tScT2, rSetL_r, rSetOf2_r, rSorDT_r, rSetD, tDGet2, tDGet, tDNewT, cxW, rExtend_r, rSortU_r, rSetOf_r, rSortedSet_r, rNinr_r, rNeN_r, rCatL_r, rSlT_r, rListOf_r, rIsB_b, rNotB_b, tFmtO, tJs, tOst, tCallS, WE, tRaise2, rOne_i, rSorD_r, tDNewK, Int.zero_add, tNever, tFor_eq, tLc_eq, iList, iTup, iRng1_eq, rRng1_i, iRng2_eq, rRng2_i, iEnum_eq, rEnum_r, iZip_eq, rZip_r, tSl, tPart, tNoPart, rSlL_r, rCat_r, rIn_r, rNin_r, rRepr_r, iRevR, rMin_r, rShr_i, rOdd_i, rSetL_r, gSub, rRg1_i, rRg2_i, rInr_r, tAug, ipI_ii, tLstRg, tRg1, tRg2, gTup_r, gUnl_r, rInt1_b, rInt1_i, rRep_r, tStep_r, scal, tSeq, tNext, tAsg, tRet, tRetN, tIfS, tDrop, tCB, tCons, tNil, tVar, tOp, tUn, tC, rU_i, rI_ii, rI0_ii, rEq, rNe, tTest, tB, tAnd, tOr, tNot, tAndV, tOrV, tNotV, tIf, tChain, tLst, tTup, tBM, tBM0, rAppend_r, rIxL_r, rIxT_r, rMx_ii, rMn_ii, rLnL_r, rLnT_r, rIsD_int, rIsD_bool, rIsD_list, rIsD_tuple, tCall, gName, gNil_n, gCons_c, cxK, L2.start, List.map, List.replicate, List.length_cons, List.length_nil, List.cons_append, List.nil_append, List.append_nil, List.getElem?_cons_zero, List.getElem?_cons_succ, Option.some.injEq, exists_eq_left', exists_eq_left, V.int.injEq, V.bl.injEq, V.str.injEq, V.ref.injEq, List.cons.injEq, and_true, true_and, and_self, List.set, wipe, rAll_r, rSum_r, reduceCtorEq, decide_true, decide_false, reduceIte, ite_true, ite_false, if_true, if_false, Bool.false_eq_true, Bool.not_true, Bool.not_false])
local macro_rules | `(tactic| walk_at "shaped") => `(tactic| (simp only [rReprM_r, rMinN_r, tCKw, iZip3_eq, rZip3_r, iRng3_eq, rRng3_i, rNeN_r, tAugS, rIsDX_list, SeqAt.shaped, PyData.canLay0, PyData.canLayAll0, PyData.depth, PyData.depthAll]; rfl))
local macro_rules | `(tactic| walk_at "lay") => `(tactic| (simp only [rReprM_r, rMinN_r, tCKw, iZip3_eq, rZip3_r, iRng3_eq, rRng3_i, rNeN_r, tAugS, rIsDX_list, PyData.canLay0, PyData.canLayAll0]; rfl))
local macro_rules | `(tactic| walk_at "wg") => `(tactic| try simp only [gName, gTup_r, gCons_c, gNil_n, cxK, List.set, List.cons.injEq, and_true, true_and, exists_eq_left', exists_eq_left, List.length_cons, List.length_nil])
section
variable {P : Program} {w : World} {K : PySem.W.Frag} {mg : Str → Option Value} {base : Heap}
def isBD (b : Bak) (d : PyData) : Bool := drB b.lights.length d && (priceAt b (wodR (rowOf d))).isSome
theorem fit_yes {b : Bak} {ds : List PyData} (h1 : ∀ (i : Nat) (d : PyData), ds[i]? = some d → isBD b d = true) (h2 : ∀ (i : Nat) (d e : PyData), ds[i]? = some d → ds[i + 1]? = some e → HT.lexLt (headR (rowOf d)) (headR (rowOf e)) = true) : fitDB b (.list ds) = meetsB b ((ds.map rowOf).map wodR) := by
  show (ds.all (drB b.lights.length) && fitL b (ds.map rowOf)) = _
  have a1 : ds.all (drB b.lights.length) = true := List.all_eq_true.mpr fun d hd => by
    obtain ⟨i, hi, rfl⟩ := List.getElem_of_mem hd
    have := h1 i _ (List.getElem?_eq_getElem hi)
    unfold isBD at this
    exact (Bool.and_eq_true_iff.mp this).1
  have a2 : (((ds.map rowOf).map wodR).all fun r => (priceAt b r).isSome) = true := List.all_eq_true.mpr fun r hr => by
    obtain ⟨r0, h0, rfl⟩ := List.mem_map.mp hr
    obtain ⟨d, hd, rfl⟩ := List.mem_map.mp h0
    obtain ⟨i, hi, rfl⟩ := List.getElem_of_mem hd
    have := h1 i _ (List.getElem?_eq_getElem hi)
    unfold isBD at this
    exact (Bool.and_eq_true_iff.mp this).2
  have a3 : risesB (ds.map rowOf) = true := List.all_eq_true.mpr fun i hi => by
    have hi := List.mem_range.mp hi
    rw [List.length_map] at hi
    have e1 : ds[i]? = some ds[i] := List.getElem?_eq_getElem (by omega)
    have e2 : ds[i + 1]? = some ds[i + 1] := List.getElem?_eq_getElem (by omega)
    rw [rowAt_of (r := rowOf ds[i]) (by rw [List.getElem?_map, e1]; rfl), rowAt_of (r := rowOf ds[i + 1]) (by rw [List.getElem?_map, e2]; rfl)]
    exact h2 i _ _ e1 e2
  unfold fitL
  rw [a1, a2, a3, Bool.true_and, Bool.true_and, Bool.true_and]
theorem lex_lt {a b c a' b' c' : Int} (h : [a, b, c] ≤ [a', b', c']) (hn : ¬ (a = a' ∧ b = b' ∧ c = c')) : HT.lexLt [a, b, c] [a', b', c'] = true := by
  rw [← List.not_lt] at h
  simp only [List.cons_lt_cons_iff, List.not_lt_nil, and_false, or_false] at h
  simp only [HT.lexLt]
  repeat' split
  all_goals first | exact decide_eq_true (by omega) | omega
theorem bat_fits {ls : List Int} {g : Good} {es : E3} (hB : Batch g ls.length es) (hw : g.days.length = ls.length) (hpw : (es.map fun e => keyI3 e.1).Pairwise (· ≤ ·)) : fitDB ⟨ls, none, [g]⟩ (planD (es.map rowE)) = true := by
  have get : ∀ (i : Nat) (d : PyData), ((es.map rowE).map rowD)[i]? = some d → ∃ e, es[i]? = some e ∧ d = rowD (rowE e) := fun i d h => by
    rw [List.getElem?_map, List.getElem?_map] at h
    cases he : es[i]? with
    | none => rw [he] at h; cases h
    | some e => rw [he] at h; cases h; exact ⟨e, rfl, rfl⟩
  show fitDB _ (.list ((es.map rowE).map rowD)) = true
  rw [fit_yes (fun i d hd => ?_) (fun i d d2 hd hd2 => ?_)]
  · rw [rowOf_map]
    refine List.all_eq_true.mpr fun gi hg => List.all_eq_true.mpr fun dd hd => decide_eq_true ?_
    have hg0 : gi = 0 := by have := List.mem_range.mp hg; simp only [List.length_cons, List.length_nil] at this; omega
    subst hg0
    have hd1 := List.mem_range.mp hd
    show metM (((es.map rowE).map wodR)) 0 dd = wantN g dd
    rw [← hB.met dd hd1]
    unfold metM sum3
    rw [List.map_map, List.map_map]
    congr 1
    refine List.map_congr_left fun e _ => ?_
    unfold ind3
    show (if (wodR (rowE e)).b = 0 ∧ (wodR (rowE e)).c = dd then (wodR (rowE e)).m else 0) = e.2 * (if e.1.2.2 = dd then 1 else 0)
    by_cases h : e.1.2.2 = dd
    · rw [if_pos (show (wodR (rowE e)).b = 0 ∧ (wodR (rowE e)).c = dd from ⟨rfl, h⟩), if_pos h, Int.mul_one]
      rfl
    · rw [if_neg (show ¬ ((wodR (rowE e)).b = 0 ∧ (wodR (rowE e)).c = dd) from fun z => h z.2), if_neg h, Int.mul_zero]
  · obtain ⟨e, he, rfl⟩ := get i d hd
    have hem := List.mem_of_getElem? he
    have hk := hB.keys e.1 (List.mem_map.mpr ⟨e, hem, rfl⟩)
    have hp := hB.pos e hem
    unfold isBD
    rw [rowOf_rowD, drB_of ⟨hk.ab, hk.b, hk.c, by show 1 ≤ e.2; omega⟩, Bool.true_and]
    obtain ⟨p, hp⟩ := hk.p
    show (loafP g e.1.2.1 e.1.2.2).isSome = true
    rw [hp]
    rfl
  · obtain ⟨e, he, rfl⟩ := get i d hd
    obtain ⟨e2, he2, rfl⟩ := get (i + 1) d2 hd2
    rw [rowOf_rowD, rowOf_rowD]
    have hl := (List.getElem?_eq_some_iff.mp he2).1
    have hle : keyI3 e.1 ≤ keyI3 e2.1 := by
      have := List.pairwise_iff_getElem.mp hpw i (i + 1) (by rw [List.length_map]; omega) (by rw [List.length_map]; omega) (by omega)
      rw [List.getElem_map, List.getElem_map] at this
      rw [List.getElem?_eq_getElem (by omega)] at he he2
      cases he
      cases he2
      exact this
    have hne : e.1 ≠ e2.1 := fun z => by
      have := List.pairwise_iff_getElem.mp hB.nd i (i + 1) (by rw [List.length_map]; omega) (by rw [List.length_map]; omega) (by omega)
      rw [List.getElem_map, List.getElem_map] at this
      rw [List.getElem?_eq_getElem (by omega)] at he he2
      cases he
      cases he2
      exact this z
    refine lex_lt hle fun z => hne ?_
    obtain ⟨⟨a, b, c⟩, m⟩ := e
    obtain ⟨⟨a', b', c'⟩, m'⟩ := e2
    obtain ⟨z1, z2, z3⟩ := z
    have z1 : ((a : Nat) : Int) = a' := z1
    have z2 : ((b : Nat) : Int) = b' := z2
    have z3 : ((c : Nat) : Int) = c' := z3
    show (a, b, c) = (a', b', c')
    rw [show a = a' by omega, show b = b' by omega, show c = c' by omega]
/-- a cheapest plan as batches -/
def asE (L : List Row4) : E3 := L.map fun r => (r.k, r.m)
theorem asE_rows (L : List Row4) : (asE L).map rowE = L := by
  unfold asE
  rw [List.map_map]
  exact List.map_id'' (fun r => rfl) L
theorem sum3_asE (L : List Row4) (k : Nat) : sum3 (ind3 k) (asE L) = metC L k := by
  unfold sum3 metC asE
  rw [List.map_map]
  congr 1
  refine List.map_congr_left fun r _ => ?_
  unfold ind3
  show r.m * (if r.c = k then 1 else 0) = if r.c = k then r.m else 0
  by_cases h : r.c = k
  · rw [if_pos h, if_pos h, Int.mul_one]
  · rw [if_neg h, if_neg h, Int.mul_zero]
theorem sum3_le {B : Int} : ∀ (L : List Row4), (∀ r ∈ L, r.m ≤ B) → sum3 (fun _ => 1) (asE L) ≤ (L.length : Int) * B
  | [], _ => by
    show (0 : Int) ≤ 0 * B
    omega
  | r :: L, h => by
    have ih := sum3_le L fun x hx => h x (List.mem_cons_of_mem _ hx)
    have h1 := h r List.mem_cons_self
    unfold sum3 asE at ih ⊢
    rw [List.map_cons, List.map_cons, List.sum_cons, List.length_cons]
    show r.m * 1 + _ ≤ ((L.length + 1 : Nat) : Int) * B
    have e : ((L.length + 1 : Nat) : Int) * B = (L.length : Int) * B + B := by
      rw [show ((L.length + 1 : Nat) : Int) = (L.length : Int) + 1 by omega, Int.add_mul, Int.one_mul]
    omega
theorem perm_sumI {l1 l2 : List Int} (h : l1.Perm l2) : l1.sum = l2.sum := by
  induction h with
  | nil => rfl
  | cons x _ ih => rw [List.sum_cons, List.sum_cons, ih]
  | swap x y l => simp only [List.sum_cons]; omega
  | trans _ _ h1 h2 => exact h1.trans h2
theorem told_batch {ds : List Dgh} {g : Good} {W : List Stp} {L : List Row4} (hW : WOk ds g g.days.length g.days.length W) (hL : L.Perm (planW g W)) (hok : ∀ d ∈ g.days, dayB (dayD d) = true) : Batch g g.days.length (asE L) := by
  obtain ⟨h1, h2, h3⟩ := hW.rows
  have hwn : ∀ k, k < g.days.length → 0 ≤ wantN g k ∧ wantN g k ≤ 1000000000 := fun k hk => by
    unfold wantN
    rw [List.getElem?_eq_getElem hk]
    have := hok _ (List.getElem_mem hk)
    simp only [dayD, dayB, numD, Bool.and_eq_true, decide_eq_true_eq] at this
    exact this.1.1.1
  have hr : ∀ r ∈ L, KeyD g g.days.length r.k ∧ 0 < r.m ∧ r.m ≤ 1000000000 := fun r hr => by
    obtain ⟨a1, a2, a3, a4, a5, a6, _⟩ := h1 r (hL.mem_iff.mp hr)
    have := hwn r.c a3
    exact ⟨⟨a1, a2, a3, a4⟩, by omega, by omega⟩
  refine ⟨?_, fun k hk => ?_, fun e he => ?_, fun k hk => ?_, ?_, ?_⟩
  · have : (L.map Row4.c).Nodup := (hL.map Row4.c).nodup_iff.mpr h2
    have e : (asE L).map (·.1) = L.map Row4.k := by unfold asE; rw [List.map_map]; rfl
    rw [e]
    unfold List.Nodup at this ⊢
    rw [List.pairwise_map] at this ⊢
    exact this.imp fun h z => h (congrArg (fun k : K3 => k.2.2) z)
  · obtain ⟨e, he, rfl⟩ := List.mem_map.mp hk
    obtain ⟨r, hr', rfl⟩ := List.mem_map.mp he
    exact (hr r hr').1
  · obtain ⟨r, hr', rfl⟩ := List.mem_map.mp he
    exact (hr r hr').2.1
  · rw [sum3_asE]
    have e : metC L k = metC (planW g W) k := by
      unfold metC
      exact perm_sumI (hL.map _)
    rw [e, hW.met, if_pos hk]
  · have := sum3_le L fun r hr' => (hr r hr').2.2
    have hl := hL.length_eq
    have : (L.length : Int) * 1000000000 ≤ (g.days.length : Int) * 1000000000 := by omega
    omega
  · unfold asE
    rw [List.length_map, hL.length_eq]
    omega
theorem codeI4 (r : Row4) : TS.code 1000000001 (rowI4 r) = (r.a : Int) * 1000000003000000003000000001 + (r.b : Int) * 1000000002000000001 + (r.c : Int) * 1000000001 + r.m := by
  unfold rowI4
  simp only [TS.code, List.length_cons, List.length_nil]
  omega
theorem told_keys {L : List Row4} (hs : L.Pairwise fun x y => TS.code 1000000001 (rowI4 x) ≤ TS.code 1000000001 (rowI4 y)) (hb : ∀ r ∈ L, r.a < 1000 ∧ r.b < 1000 ∧ r.c < 1000 ∧ 0 ≤ r.m ∧ r.m ≤ 1000000000) : ((asE L).map fun e => keyI3 e.1).Pairwise (· ≤ ·) := by
  have e : ((asE L).map fun e => keyI3 e.1) = L.map fun r => keyI3 r.k := by unfold asE; rw [List.map_map]; rfl
  rw [e, List.pairwise_map]
  refine hs.imp_of_mem fun {x y} hx hy h => ?_
  rw [codeI4, codeI4] at h
  obtain ⟨x1, x2, x3, x4, x5⟩ := hb x hx
  obtain ⟨y1, y2, y3, y4, y5⟩ := hb y hy
  rw [← List.not_lt]
  intro z
  have z : [(y.a : Int), (y.b : Int), (y.c : Int)] < [(x.a : Int), (x.b : Int), (x.c : Int)] := z
  simp only [List.cons_lt_cons_iff, List.not_lt_nil, and_false, or_false] at z
  omega
theorem dgh_nn {ds : List Dgh} (hds : ∀ d ∈ ds, dghB (dghD d) = true) : ∀ d ∈ ds, 0 ≤ d.mix ∧ 0 ≤ d.dough ∧ 0 ≤ d.hold := fun d hd => by
  have := hds d hd
  simp only [dghB, dghD, numD, Bool.and_eq_true, decide_eq_true_eq] at this
  exact ⟨this.1.1.1, this.1.2.1, this.2.1⟩
theorem mixF_nn {ds : List Dgh} (hds : ∀ d ∈ ds, dghB (dghD d) = true) (b : Nat) : 0 ≤ mixF ds b ∧ mixF ds b ≤ 1000000000 := by
  unfold mixF dghAt
  rw [List.getD_eq_getElem?_getD]
  cases e : ds[b]? with
  | none => exact ⟨Int.le_refl _, by decide⟩
  | some d =>
    have := hds d (List.mem_of_getElem? e)
    simp only [dghB, dghD, numD, Bool.and_eq_true, decide_eq_true_eq] at this
    exact ⟨this.1.1.1, this.1.1.2⟩
theorem light_nn {ls : List Int} (c3 : ∀ z ∈ ls, numD (.int z) = true) (b : Nat) : 0 ≤ rowF ls b ∧ rowF ls b ≤ 1000000000 := by
  unfold rowF
  rw [List.getD_eq_getElem?_getD]
  cases e : ls[b]? with
  | none => exact ⟨Int.le_refl _, by decide⟩
  | some z =>
    have := c3 z (List.mem_of_getElem? e)
    simp only [numD, Bool.and_eq_true, decide_eq_true_eq] at this
    exact this
/-- what is known of a told plan and ladder -/
structure ToldF (ls : List Int) (g : Good) (ds : List Dgh) (L : List Row4) (Fl : List Int) (Ml : Nat → List Int) : Prop where
  fit : fitDB ⟨ls, none, [g]⟩ (planD L) = true
  few : FewL (planD L)
  plan : PlanF g ls.length L
  cost : costD ds ls g ls.length L = rowF Fl g.days.length
  lad : Bld ds g (rowF ls) g.days.length (rowF Fl) (fun e => rowF (Ml e)) g.days.length
  lenL : L.length ≤ 12
  rows : ∀ r ∈ L, r.a < 12 ∧ r.b < 12 ∧ r.c < 12 ∧ 0 ≤ r.m ∧ r.m ≤ 1000000000
  numF : ∀ z ∈ Fl, z.natAbs ≤ 10 ^ 58
  numM : ∀ e, e < g.days.length → ∀ z ∈ Ml e, z.natAbs ≤ 10 ^ 58
theorem chp_facts {K : PySem.W.Frag} {H : Hp} {pl lad : V} {ls : List Int} {g : Good} {ds : List Dgh} {L : List Row4} {Fl : List Int} {Ml : Nat → List Int} (hC : ChpD K H pl lad ls g ds L Fl Ml) (hb : bakB (bakD ⟨ls, none, [g]⟩) = true) (hdl : ds.length = ls.length) (hds : ∀ d ∈ ds, dghB (dghD d) = true) (hn : ls.length ≤ 12) : ToldF ls g ds L Fl Ml := by
  obtain ⟨⟨c1, c2⟩, c3, _, _, c7⟩ := bak_parts hb
  obtain ⟨c8, c9, hok⟩ := c7 g (List.mem_singleton.mpr rfl)
  dsimp only at c1 c2 c3 c8
  have hmix := dgh_nn hds
  have hmf := fun b => (mixF_nn hds b).1
  have nn := fun b => (light_nn c3 b).1
  have hlf := life_ok c9
  have hNW : NonNegW g.days := nonNegW_of hok
  have hWok := (walk_ok hC.bld hmf nn g.days.length g.days.length none (Nat.le_refl _) (Nat.le_refl _) (fun e he => by cases he)).1
  have hB3 := told_batch hWok hC.perm hok
  have hrow : ∀ r ∈ L, r.a < g.days.length ∧ r.b < g.days.length ∧ r.c < g.days.length ∧ 0 ≤ r.m ∧ r.m ≤ 1000000000 := fun r hr => by
    obtain ⟨a1, a2, a3, _⟩ := hB3.keys r.k (List.mem_map.mpr ⟨(r.k, r.m), List.mem_map.mpr ⟨r, hr, rfl⟩, rfl⟩)
    have h1 : r.a ≤ r.b := a1
    have h2 : r.b < g.days.length := a2
    have h3 : r.c < g.days.length := a3
    have hm := hWok.rows.1 r (hC.perm.mem_iff.mp hr)
    have hm2 := hm.2.2.2.2.2.1
    have hw : 0 ≤ wantN g r.c ∧ wantN g r.c ≤ 1000000000 := by
      unfold wantN
      rw [List.getElem?_eq_getElem h3]
      have := hok _ (List.getElem_mem h3)
      simp only [dayD, dayB, numD, Bool.and_eq_true, decide_eq_true_eq] at this
      exact this.1.1.1
    omega
  have hpw3 := told_keys hC.sort (fun r hr => by
    have := hrow r hr
    omega)
  have hlen : L.length ≤ 12 := by
    have h1 := hWok.rows.2.2
    have h2 := hC.perm.length_eq
    exact Nat.le_trans (Nat.le_of_eq h2) (Nat.le_trans h1 (by omega))
  have hE : ((asE L).map rowE) = L := asE_rows L
  have up := hC.bld.upper rfl hmf hlf (A := 1000000000) (C := 3000000000000000000) (fun e => (mixF_nn hds e).2) (fun e s he h => by
    have := want_own_le hok hds hlf he h
    have := (light_nn c3 e).2
    omega) (by decide) (by decide)
  have lo := hC.bld.nonneg hmf nn hmix hNW
  have bg : ∀ z : Int, 0 ≤ z → z ≤ 10 ^ 30 → z.natAbs ≤ 10 ^ 58 := fun z h1 h2 => Nat.le_trans (show z.natAbs ≤ 10 ^ 30 by omega) (by decide)
  have jb : ∀ j : Nat, j ≤ g.days.length → (j : Int) * (1000000000 + 3000000000000000000) ≤ 12 * (1000000000 + 3000000000000000000) := fun j hj => Int.mul_le_mul_of_nonneg_right (by omega) (by decide)
  refine ⟨?_, ?_, ?_, ?_, hC.bld, hlen, fun r hr => ?_, fun z hz => ?_, fun e he z hz => ?_⟩
  · have := bat_fits (ls := ls) (by rw [← c8]; exact hB3) c8 hpw3
    rw [hE] at this
    exact this
  · intro ds' e
    cases e
    rw [List.length_map]
    omega
  · have := (show Batch g ls.length (asE L) by rw [← c8]; exact hB3).plan (by omega)
    rw [hE] at this
    exact this
  · rw [← c8]
    exact walk_cost hC.bld rfl (by omega) nn hmix hNW hlf hC.perm
  · have := hrow r hr
    omega
  · obtain ⟨j, hj, rfl⟩ := List.mem_iff_getElem.mp hz
    have e := rowF_at (xs := Fl) hj
    rw [List.getElem?_eq_getElem hj] at e
    have hj' : j ≤ g.days.length := by have := hC.lenF; omega
    rw [Option.some.inj e]
    have := (up j hj').1
    have := jb j hj'
    exact bg _ (lo j hj').1 (by omega)
  · obtain ⟨j, hj, rfl⟩ := List.mem_iff_getElem.mp hz
    have e1 := rowF_at (xs := Ml e) hj
    rw [List.getElem?_eq_getElem hj] at e1
    have hj' : j ≤ g.days.length := by have := hC.lenM e he; omega
    rw [Option.some.inj e1]
    have h1 := (up j hj').2 e he
    have h2 := (lo j hj').2 e he
    have := jb j hj'
    exact bg _ h2 (by omega)
end
end Bk

namespace Bk
open PySem PySem.Spec PyProof.Rows L2
local macro_rules | `(tactic| walk_at "wp") => `(tactic| try simp only [rReprM_r, rMinN_r, tCKw, iZip3_eq, rZip3_r, iRng3_eq, rRng3_i, rNeN_r, tAugS, rIsDX_list, tScT2, rSetL_r, rSetOf2_r, rSorDT_r, rSetD, tDGet2, tDGet, tDNewT, cxW, rExtend_r, rSortU_r, rSetOf_r, rSortedSet_r, rNinr_r, rNeN_r, rCatL_r, rSlT_r, rListOf_r, rIsB_b, rNotB_b, tFmtO, tJs, tOst, tCallS, WE, tRaise2, rOne_i, rSorD_r, tDNewK, Int.zero_add, tNever, tFor_eq, tLc_eq, iList, iTup, iRng1_eq, rRng1_i, iRng2_eq, rRng2_i, iEnum_eq, rEnum_r, iZip_eq, rZip_r, tSl, tPart, tNoPart, rSlL_r, rCat_r, rIn_r, rNin_r, rRepr_r, iRevR, rMin_r, rShr_i, rOdd_i, rSetL_r, gSub, rRg1_i, rRg2_i, rInr_r, tAug, ipI_ii, tLstRg, tRg1, tRg2, gTup_r, gUnl_r, rInt1_b, rInt1_i, rRep_r, tStep_r, scal, tSeq, tNext, tAsg, tRet, tRetN, tIfS, tDrop, tCB, tCons, tNil, tVar, tOp, tUn, tC, rU_i, rI_ii, rI0_ii, rEq, rNe, tTest, tB, tAnd, tOr, tNot, tAndV, tOrV, tNotV, tIf, tChain, tLst, tTup, tBM, tBM0, rAppend_r, rIxL_r, rIxT_r, rMx_ii, rMn_ii, rLnL_r, rLnT_r, rIsD_int, rIsD_bool, rIsD_list, rIsD_tuple, tCall, gName, gNil_n, gCons_c, cxK, L2.start, List.map, List.replicate, List.length_cons, List.length_nil, List.cons_append, List.nil_append, List.append_nil, List.getElem?_cons_zero, List.getElem?_cons_succ, Option.some.injEq, exists_eq_left', exists_eq_left, V.int.injEq, V.bl.injEq, V.str.injEq, V.ref.injEq, List.cons.injEq, and_true, true_and, and_self, List.set, wipe, rAll_r, rSum_r, reduceCtorEq, decide_true, decide_false, reduceIte, ite_true, ite_false, if_true, if_false, Bool.false_eq_true, Bool.not_true, Bool.not_false])
local macro_rules | `(tactic| walk_at "shaped") => `(tactic| (simp only [rReprM_r, rMinN_r, tCKw, iZip3_eq, rZip3_r, iRng3_eq, rRng3_i, rNeN_r, tAugS, rIsDX_list, SeqAt.shaped, PyData.canLay0, PyData.canLayAll0, PyData.depth, PyData.depthAll]; rfl))
local macro_rules | `(tactic| walk_at "lay") => `(tactic| (simp only [rReprM_r, rMinN_r, tCKw, iZip3_eq, rZip3_r, iRng3_eq, rRng3_i, rNeN_r, tAugS, rIsDX_list, PyData.canLay0, PyData.canLayAll0]; rfl))
local macro_rules | `(tactic| walk_at "wg") => `(tactic| try simp only [gName, gTup_r, gCons_c, gNil_n, cxK, List.set, List.cons.injEq, and_true, true_and, exists_eq_left', exists_eq_left, List.length_cons, List.length_nil])
section
variable {P : Program} {w : World} {K : PySem.W.Frag} {mg : Str → Option Value} {base : Heap}
abbrev s_least : Stmt := top 75
theorem sc_least : FnScope ["_law_bakery_here", "_law_doughs_here", "_law_plan", "_law_ladder"] ["_law_bakery_here", "_law_doughs_here"] (defScope s_least) := ⟨rfl, rfl, rfl, by decide +kernel, rfl, by decide +kernel, by decide +kernel⟩
theorem LadH.th {K : PySem.W.Frag} {H : Hp} {v : V} {n : Nat} {Fl : List Int} {Ml : Nat → List Int} (h : LadH H v n Fl Ml) : ∃ t fr mx, v = .ref t ∧ SqT K H t [.ref fr, .ref mx] ∧ SqL K H fr (Fl.map V.int) := by
  obtain ⟨t, fr, mx, ra, rfl, h1, h2, h3, h4⟩ := h.ex
  exact ⟨t, fr, mx, rfl, SqT.of h1, SqL.of h2⟩
def spLeastD (K : PySem.W.Frag) : Sp := fun vs H Q _ => ∃ x ls g y ds, vs = [x, y] ∧ Th K H x (bakD ⟨ls, none, [g]⟩) ∧ bakB (bakD ⟨ls, none, [g]⟩) = true ∧ Th K H y (doughsD ds) ∧ ds.length = ls.length ∧ (∀ d ∈ ds, dghB (dghD d) = true) ∧ ls.length ≤ 12 ∧ ∀ (H' : Hp) (F : Nat → Int) (M : Nat → Nat → Int), Same H H' → Bld ds g (rowF ls) g.days.length F M g.days.length → Q (.int (F g.days.length)) H'
theorem ok_least {f : Addr} {fd : FuncData} (F : Fun K "_law_least" "_law_least" s_least f fd) (B : Bi mg) (D_cheapest_doughs : Def P w K mg base "cheapest_doughs" 10 ["bakery", "doughs"] (spCheapD K)) (D_fits_doughs : Def P w K mg base "fits_doughs" 10 ["bakery", "doughs", "thing"] (spFitD K)) (D_dough_cost : Def P w K mg base "dough_cost" 10 ["bakery", "doughs", "plan"] (spDcost K)) : FnOk P w K mg base CX0 11 f fd ["_law_bakery_here", "_law_doughs_here"] (spLeastD K) := by
  refine F.ok sc_least (fun vs H Q E h => ?_) (fun cdv A outer s H vs Q E hr h => ?_)
  · obtain ⟨_, _, _, _, _, rfl, _⟩ := h
    rfl
  · obtain ⟨x, ls, g, y, ds, rfl, hx, hb, hy, hdl, hds, hn, q⟩ := h
    refine ⟨_, (pss_cons (ps_asg (pe_callD D_cheapest_doughs hr (by rfl) (pa_cons (pv 0) (pa_cons (pv 1) pa_nil))) (pg_tup rfl (pgs_cons (pg_name (i := 2) sc_least.nd rfl (Or.inl rfl)) (pgs_cons (pg_name (i := 3) sc_least.nd rfl (Or.inl rfl)) pgs_nil))))
 (pss_cons (ps_if (PW.pt (pw_or (pt_cmpR op_notBl (pe_callD D_fits_doughs hr (by rfl) (pa_cons (pv 0) (pa_cons (pv 1) (pa_cons (pv 2) pa_nil)))) pe_bl (nomark _)) (pw_or1 (pt_cmpR op_ne (pe_callD D_dough_cost hr (by rfl) (pa_cons (pv 0) (pa_cons (pv 1) (pa_cons (pv 2) pa_nil)))) (pe_ix ix_list (pe_ix ix_tup (pv 3) pe_int (fun _ _ => rfl)) (pe_un un_neg pe_int) (fun _ _ => rfl)) (nomark _))))) (pss_one (ps_ret pe_non)) pss_nil)
 (pss_one (ps_ret (pe_ix ix_list (pe_ix ix_tup (pv 3) pe_int (fun _ _ => rfl)) (pe_un un_neg pe_int) (fun _ _ => rfl)))))), ?_⟩
    obtain ⟨⟨c1, c2⟩, c3, _, _, c7⟩ := bak_parts hb
    obtain ⟨c8, c9, hok⟩ := c7 g (List.mem_singleton.mpr rfl)
    dsimp only at c1 c2 c3 c8
    walk_at "wp"
    refine ⟨x, y, ls, g, ds, rfl, hx, hb, hy, hdl, hds, hn, fun H2 t pl lad L Fl Ml S2 e2 hC => ?_⟩
    have hT := chp_facts hC hb hdl hds hn
    have hpl := hC.plan.same (newOf_same _ _)
    have hLH := hC.lad.lad.same (newOf_same _ _)
    obtain ⟨t0, fr, mx, rfl, k1, k2⟩ := hLH.th (K := K)
    have lastA : atI (Fl.map V.int) (-1) = some (.int (rowF Fl g.days.length)) := atI_last (m := g.days.length) (by rw [List.length_map, hC.lenF]) (by rw [List.getElem?_map, rowF_at (by rw [hC.lenF]; omega)]; rfl)
    walk_at "wp"
    refine ⟨_, SqT.of e2, rfl, ?_⟩
    walk_at "wp"
    refine ⟨x, ls, g, y, ds, pl, planD L, rfl, hx.same S2, hb, hy.same S2, hdl, hds, .th hpl, hT.few, fun H3 S3 => ?_⟩
    rw [hT.fit]
    have T3 := S2.trans S3
    walk_at "wp"
    refine ⟨x, ls, g, y, ds, pl, L, rfl, hx.same T3, hb, hy.same T3, hdl, hds, hpl.same S3, hT.plan, fun H4 S4 => ?_⟩
    rw [hT.cost]
    have S34 := S3.trans S4
    refine ⟨_, _, Same.tup S34 k1, atI_nat (j := 0) rfl, ?_⟩
    walk_at "wp"
    refine ⟨_, _, S34.seq k2, lastA, rfl, ?_⟩
    rw [if_neg (by rw [decide_eq_true rfl]; decide)]
    refine ⟨_, _, Same.tup S34 k1, atI_nat (j := 0) rfl, ?_⟩
    walk_at "wp"
    refine ⟨_, _, S34.seq k2, lastA, ?_⟩
    exact q _ _ _ (S2.trans S34) hC.bld
abbrev s_dearer : Stmt := top 76
theorem sc_dearer : FnScope ["_law_bakery_here", "_law_doughs_here", "_law_lights", "_law_bound", "_law_goods", "_law_days", "_law_want", "_law_loaf", "_law_keep", "_law_fine", "_law_mix", "_law_dough", "_law_hold"] ["_law_bakery_here", "_law_doughs_here"] (defScope s_dearer) := ⟨rfl, rfl, rfl, by decide +kernel, rfl, by decide +kernel, by decide +kernel⟩
def spDear (K : PySem.W.Frag) : Sp := fun vs H Q _ => ∃ x ls g y ds, vs = [x, y] ∧ Th K H x (bakD ⟨ls, none, [g]⟩) ∧ Th K H y (doughsD ds) ∧ ds.length = g.days.length ∧ g.days.length ≤ 40 ∧ ∀ (H' : Hp) (z : V), Same H H' → Th K H' z (bakD ⟨ls, none, [addE g fun b => (dghAt ds b).dough]⟩) → Q z H'
theorem new_but {H : Hp} {D : Addr} {o : HO} (h : H D = none) : Same H (but [D] (upd H D o)) := fun b x e => by
  have nb : b ≠ D := fun z => by rw [z, h] at e; cases e
  exact but_at (by simpa using nb) (by rw [upd_ne nb]; exact e)
theorem mut_but {H H0 : Hp} {D : Addr} {o : HO} (h : Same H0 (but [D] H)) : Same H0 (but [D] (upd H D o)) := by
  rw [but_upd (List.mem_singleton.mpr rfl)]
  exact h
theorem ok_dearer {f : Addr} {fd : FuncData} (F : Fun K "_law_dearer" "_law_dearer" s_dearer f fd) (B : Bi mg) (Bz : mg "zip" = none) : FnOk P w K mg base CX0 1 f fd ["_law_bakery_here", "_law_doughs_here"] (spDear K) := by
  refine F.ok sc_dearer (fun vs H Q E h => ?_) (fun cdv A outer s H vs Q E hr h => ?_)
  · obtain ⟨_, _, _, _, _, rfl, _⟩ := h
    rfl
  · obtain ⟨x, ls, g, y, ds, rfl, hx, hy, hdl, hn, q⟩ := h
    refine ⟨_, (pss_cons (ps_asg (pv 0) (pg_tup rfl (pgs_cons (pg_name (i := 2) sc_dearer.nd rfl (Or.inl rfl)) (pgs_cons (pg_name (i := 3) sc_dearer.nd rfl (Or.inl rfl)) (pgs_cons (pg_name (i := 4) sc_dearer.nd rfl (Or.inl rfl)) pgs_nil)))))
 (pss_cons (ps_set (i := 5) sc_dearer.nd rfl (Or.inl rfl) (pe_lst pa_nil))
 (pss_cons (ps_for PassesOwn.never rfl (pi_zip (by rfl) Bz (pa_cons (pe_ix ix_tup (pe_ix ix_list (pv 4) pe_int (fun _ _ => rfl)) pe_int (fun _ _ => rfl)) (pa_cons (pv 1) pa_nil))) (pg_tup rfl (pgs_cons (pg_tup rfl (pgs_cons (pg_name (i := 6) sc_dearer.nd rfl (Or.inl rfl)) (pgs_cons (pg_name (i := 7) sc_dearer.nd rfl (Or.inl rfl)) (pgs_cons (pg_name (i := 8) sc_dearer.nd rfl (Or.inl rfl)) (pgs_cons (pg_name (i := 9) sc_dearer.nd rfl (Or.inl rfl)) pgs_nil))))) (pgs_cons (pg_tup rfl (pgs_cons (pg_name (i := 10) sc_dearer.nd rfl (Or.inl rfl)) (pgs_cons (pg_name (i := 11) sc_dearer.nd rfl (Or.inl rfl)) (pgs_cons (pg_name (i := 12) sc_dearer.nd rfl (Or.inl rfl)) pgs_nil)))) pgs_nil))) (pss_one (ps_expr (pe_bm PySem.F.plainAttrs_list PySem.F.slot_list_append PySem.F.type_list_append mt_append (pv 5) (pa_cons (pe_tup (pa_cons (pv 6) (pa_cons (pe_op op_add (pv 7) (pv 11)) (pa_cons (pv 8) (pa_cons (pv 9) pa_nil))))) pa_nil)))))
 (pss_one (ps_ret (pe_tup (pa_cons (pv 2) (pa_cons pe_non (pa_cons (pe_lst (pa_cons (pe_tup (pa_cons (pv 5) (pa_cons (pe_ix ix_tup (pe_ix ix_list (pv 4) pe_int (fun _ _ => rfl)) pe_int (fun _ _ => rfl)) pa_nil))) pa_nil)) pa_nil))))))))), ?_⟩
    obtain ⟨a, l, v2, ga, xl, xg, rfl, ht, hl, hla, h2, hgl, hga⟩ := Th.bak hx
    obtain ⟨vg, hv, hvg⟩ := hga.get' (i := 0) (d := goodD g) rfl
    obtain ⟨tg, ad, xs, rfl, htg, hsg, hag⟩ := hvg.good
    obtain ⟨yp, xs0, rfl, hys, hya⟩ := Th.doughs hy
    have hxl := hag.length
    rw [List.length_map] at hxl
    have hyl := hya.length
    rw [List.length_map] at hyl
    walk_at "wp"
    refine ⟨_, ht, rfl, ?_⟩
    walk_at "wp"
    refine ⟨sz100 (by decide), fun D hD => ?_⟩
    have S1 := new_but (o := .lst []) hD
    have E1 : upd H D (.lst []) D = some (.lst []) := upd_same
    generalize upd H D (.lst []) = H1 at S1 E1 ⊢
    have S1' := S1.trans (but_same _ _)
    refine ⟨_, _, S1'.seq hgl, atI_nat (j := 0) hv, ?_⟩
    walk_at "wp"
    refine ⟨_, _, Same.tup S1' htg, atI_nat (j := 0) rfl, ?_⟩
    walk_at "wp"
    refine ⟨_, _, S1'.seq hsg, S1'.seq hys, ?_⟩
    refine LoopR.by (walk_zip (n := g.days.length) (xs := xs) (ys := xs0) (by omega)) (fun i σ H' => ∃ y6 y7 y8 y9 y10 y11 y12 : Option V, σ = [some (.ref a), some (.ref yp), some (.ref l), some v2, some (.ref ga), some (.ref D), y6, y7, y8, y9, y10, y11, y12] ∧ Same H (but [D] H') ∧ ∃ zs, H' D = some (.lst zs) ∧ zs.length = i ∧ ThAll K (but [D] H') zs (((addE g fun b => (dghAt ds b).dough).days.take i).map dayD)) ⟨none, none, none, none, none, none, none, rfl, S1, [], E1, rfl, .nil⟩ (fun i σ H' _ hI => ?_) (fun i v σ K0 K1 hi hI yy => ?_) (fun σ H3 hI => ?_)
    · obtain ⟨_, _, _, _, _, _, _, _, S, _⟩ := hI
      have S := S.trans (but_same _ _)
      exact ⟨S.seq hsg, S.seq hys⟩
    · obtain ⟨y6, y7, y8, y9, y10, y11, y12, rfl, SB, zs, eD, hzl, hzs⟩ := hI
      have SYY := ypair_same yy
      obtain ⟨T2, u1, u2, rfl, hT2, rfl, g1, g2⟩ := yy
      have g1 : xs[i]? = some u1 := g1
      have g2 : xs0[i]? = some u2 := g2
      have hday : g.days[i]? = some g.days[i] := List.getElem?_eq_getElem hi
      obtain ⟨vd, hvd, hvdd⟩ := hag.get' (i := i) (d := dayD g.days[i]) (by rw [List.getElem?_map, hday]; rfl)
      rw [hvd] at g1
      cases g1
      obtain ⟨td, rfl, htd⟩ := hvdd.day
      obtain ⟨te, hte, hte2⟩ := doughs_at hya i (by omega)
      rw [hte] at g2
      cases g2
      have eT2 : upd K0 T2 (.tup [V.ref td, V.ref te]) T2 = some (.tup [V.ref td, V.ref te]) := upd_same
      generalize upd K0 T2 (.tup [V.ref td, V.ref te]) = K2 at SYY eT2 ⊢
      have SB2 := SB.trans (but_mono SYY)
      have SF := SB2.trans (but_same _ _)
      have eD2 := SYY _ _ eD
      walk_at "wp"
      refine ⟨_, SqT.of eT2, rfl, ?_⟩
      walk_at "wp"
      refine ⟨_, Same.tup SF htd, rfl, ?_⟩
      walk_at "wp"
      refine ⟨_, Same.tup SF hte2, rfl, ?_⟩
      walk_at "wp"
      refine ⟨tyL (SqL.of eD2), sz100 (by decide), fun p hp => ?_⟩
      obtain ⟨K3, e3, S3, E3⟩ := alloc (.tup [V.int g.days[i].want, V.int (g.days[i].loaf + (dghAt ds i).dough), V.int g.days[i].keep, optV g.days[i].fine]) hp
      rw [e3]
      have eD3 := S3 _ _ eD2
      have np : p ≠ D := fun z => by rw [z, eD2] at hp; cases hp
      refine ⟨_, eD3, sz100l (by omega), _, _, _, _, _, _, _, ⟨rfl, rfl, rfl, rfl, rfl, rfl, rfl⟩, mut_but (SB2.trans (but_mono S3)), zs ++ [.ref p], upd_same, by rw [List.length_append, hzl]; rfl, ?_⟩
      rw [but_upd (List.mem_singleton.mpr rfl)]
      have ed : (addE g fun b => (dghAt ds b).dough).days[i]? = some (dearD (fun b => (dghAt ds b).dough) i g.days[i]) := by
        unfold addE
        dsimp only
        rw [List.getElem?_mapIdx, hday]
        rfl
      rw [List.take_add_one, ed, List.map_append]
      refine (hzs.same (but_mono (SYY.trans S3))).append (.cons ?_ .nil)
      exact .tup (SqT.of (but_at (by simpa using np) E3)) (.cons (.int _) (.cons (.int _) (.cons (.int _) (.cons (Th.optV _) .nil))))
    · obtain ⟨y6, y7, y8, y9, y10, y11, y12, rfl, SB, zs, eD, hzl, hzs⟩ := hI
      have S3 := SB.trans (but_same _ _)
      rw [List.take_of_length_le (by unfold addE; dsimp only; rw [List.length_mapIdx]; omega)] at hzs
      have hzs := hzs.same (but_same _ _)
      walk_at "wp"
      refine ⟨_, _, S3.seq hgl, atI_nat (j := 0) hv, ?_⟩
      walk_at "wp"
      refine ⟨_, _, Same.tup S3 htg, atI_nat (j := 1) rfl, sz100 (by decide), fun p1 hp1 => ?_⟩
      obtain ⟨J1, e1, T1, F1⟩ := alloc (.tup [V.ref D, optV g.life]) hp1
      rw [e1]
      refine ⟨sz100 (by decide), fun p2 hp2 => ?_⟩
      obtain ⟨J2, e2, T2, F2⟩ := alloc (.lst [V.ref p1]) hp2
      rw [e2]
      refine ⟨sz100 (by decide), fun p3 hp3 => ?_⟩
      obtain ⟨J3, e3, T3, F3⟩ := alloc (.tup [V.ref l, V.non, V.ref p2]) hp3
      rw [e3]
      have SJ := T1.trans (T2.trans T3)
      refine q _ _ (S3.trans SJ) (.tup (SqT.of F3) (.cons (.lst ((S3.trans SJ).seq hl) (hla.same (S3.trans SJ))) (.cons .non (.cons (.lst (SqL.of (T3 _ _ F2)) (.cons (.tup (SqT.of ((T2.trans T3) _ _ F1)) (.cons (.lst (SqL.of (SJ _ _ eD)) (hzs.same SJ)) (.cons (Th.optV _) .nil))) .nil)) .nil))))
end
end Bk

namespace Bk
open PySem PySem.Spec PyProof.Rows L2
local macro_rules | `(tactic| walk_at "wp") => `(tactic| try simp only [rReprM_r, rMinN_r, tCKw, iZip3_eq, rZip3_r, iRng3_eq, rRng3_i, rNeN_r, tAugS, rIsDX_list, tScT2, rSetL_r, rSetOf2_r, rSorDT_r, rSetD, tDGet2, tDGet, tDNewT, cxW, rExtend_r, rSortU_r, rSetOf_r, rSortedSet_r, rNinr_r, rNeN_r, rCatL_r, rSlT_r, rListOf_r, rIsB_b, rNotB_b, tFmtO, tJs, tOst, tCallS, WE, tRaise2, rOne_i, rSorD_r, tDNewK, Int.zero_add, tNever, tFor_eq, tLc_eq, iList, iTup, iRng1_eq, rRng1_i, iRng2_eq, rRng2_i, iEnum_eq, rEnum_r, iZip_eq, rZip_r, tSl, tPart, tNoPart, rSlL_r, rCat_r, rIn_r, rNin_r, rRepr_r, iRevR, rMin_r, rShr_i, rOdd_i, rSetL_r, gSub, rRg1_i, rRg2_i, rInr_r, tAug, ipI_ii, tLstRg, tRg1, tRg2, gTup_r, gUnl_r, rInt1_b, rInt1_i, rRep_r, tStep_r, scal, tSeq, tNext, tAsg, tRet, tRetN, tIfS, tDrop, tCB, tCons, tNil, tVar, tOp, tUn, tC, rU_i, rI_ii, rI0_ii, rEq, rNe, tTest, tB, tAnd, tOr, tNot, tAndV, tOrV, tNotV, tIf, tChain, tLst, tTup, tBM, tBM0, rAppend_r, rIxL_r, rIxT_r, rMx_ii, rMn_ii, rLnL_r, rLnT_r, rIsD_int, rIsD_bool, rIsD_list, rIsD_tuple, tCall, gName, gNil_n, gCons_c, cxK, L2.start, List.map, List.replicate, List.length_cons, List.length_nil, List.cons_append, List.nil_append, List.append_nil, List.getElem?_cons_zero, List.getElem?_cons_succ, Option.some.injEq, exists_eq_left', exists_eq_left, V.int.injEq, V.bl.injEq, V.str.injEq, V.ref.injEq, List.cons.injEq, and_true, true_and, and_self, List.set, wipe, rAll_r, rSum_r, reduceCtorEq, decide_true, decide_false, reduceIte, ite_true, ite_false, if_true, if_false, Bool.false_eq_true, Bool.not_true, Bool.not_false])
local macro_rules | `(tactic| walk_at "shaped") => `(tactic| (simp only [rReprM_r, rMinN_r, tCKw, iZip3_eq, rZip3_r, iRng3_eq, rRng3_i, rNeN_r, tAugS, rIsDX_list, SeqAt.shaped, PyData.canLay0, PyData.canLayAll0, PyData.depth, PyData.depthAll]; rfl))
local macro_rules | `(tactic| walk_at "lay") => `(tactic| (simp only [rReprM_r, rMinN_r, tCKw, iZip3_eq, rZip3_r, iRng3_eq, rRng3_i, rNeN_r, tAugS, rIsDX_list, PyData.canLay0, PyData.canLayAll0]; rfl))
local macro_rules | `(tactic| walk_at "wg") => `(tactic| try simp only [gName, gTup_r, gCons_c, gNil_n, cxK, List.set, List.cons.injEq, and_true, true_and, exists_eq_left', exists_eq_left, List.length_cons, List.length_nil])
section
variable {P : Program} {w : World} {K : PySem.W.Frag} {mg : Str → Option Value} {base : Heap}
abbrev s_mixed_alone : Stmt := top 77
theorem sc_mixed_alone : FnScope ["_law_bakery_here", "_law_doughs_here", "_law_days", "_law_row", "_law_mix", "_law_dough", "_law_hold"] ["_law_bakery_here", "_law_doughs_here"] (defScope s_mixed_alone) := ⟨rfl, rfl, rfl, by decide +kernel, rfl, by decide +kernel, by decide +kernel⟩
def spAlone (K : PySem.W.Frag) : Sp := fun vs H Q _ => ∃ x ls g y ds, vs = [x, y] ∧ Th K H x (bakD ⟨ls, none, [g]⟩) ∧ Th K H y (doughsD ds) ∧ ds.length = g.days.length ∧ g.days.length ≤ 40 ∧ ∀ (H' : Hp) (z : V), Same H H' → Th K H' z (bakD ⟨ds.map Dgh.mix, none, [aloneG g ds]⟩) → Q z H'
theorem ok_mixed_alone {f : Addr} {fd : FuncData} (F : Fun K "_law_mixed_alone" "_law_mixed_alone" s_mixed_alone f fd) (B : Bi mg) (Bz : mg "zip" = none) : FnOk P w K mg base CX0 1 f fd ["_law_bakery_here", "_law_doughs_here"] (spAlone K) := by
  refine F.ok sc_mixed_alone (fun vs H Q E h => ?_) (fun cdv A outer s H vs Q E hr h => ?_)
  · obtain ⟨_, _, _, _, _, rfl, _⟩ := h
    rfl
  · obtain ⟨x, ls, g, y, ds, rfl, hx, hy, hdl, hn, q⟩ := h
    refine ⟨_, (pss_cons (ps_set (i := 2) sc_mixed_alone.nd rfl (Or.inl rfl) (pe_lst pa_nil))
 (pss_cons (ps_for PassesOwn.never rfl (pi_zip (by rfl) Bz (pa_cons (pe_ix ix_tup (pe_ix ix_list (pe_ix ix_tup (pv 0) pe_int (fun _ _ => rfl)) pe_int (fun _ _ => rfl)) pe_int (fun _ _ => rfl)) (pa_cons (pv 1) pa_nil))) (pg_tup rfl (pgs_cons (pg_name (i := 3) sc_mixed_alone.nd rfl (Or.inl rfl)) (pgs_cons (pg_tup rfl (pgs_cons (pg_name (i := 4) sc_mixed_alone.nd rfl (Or.inl rfl)) (pgs_cons (pg_name (i := 5) sc_mixed_alone.nd rfl (Or.inl rfl)) (pgs_cons (pg_name (i := 6) sc_mixed_alone.nd rfl (Or.inl rfl)) pgs_nil)))) pgs_nil))) (pss_one (ps_expr (pe_bm PySem.F.plainAttrs_list PySem.F.slot_list_append PySem.F.type_list_append mt_append (pv 2) (pa_cons (pe_tup (pa_cons (pe_ix ix_tup (pv 3) pe_int (fun _ _ => rfl)) (pa_cons (pv 5) (pa_cons (pv 6) (pa_cons pe_non pa_nil))))) pa_nil)))))
 (pss_one (ps_ret (pe_tup (pa_cons (pe_lc (own := [("_law_mix", 4), ("_law_dough", 5), ("_law_hold", 6)]) (g := (gTup K 3 (gCons (gName 4) (gCons (gName 5) (gCons (gName 6) gNil))))) rfl sc_mixed_alone.nd (pi_list (pv 1)) (blkOk_by (own := [("_law_mix", 4), ("_law_dough", 5), ("_law_hold", 6)]) (N := ["_law_bakery_here", "_law_doughs_here", "_law_days", "_law_row", "_law_mix", "_law_dough", "_law_hold"]) (sc := defScope s_mixed_alone) (by decide +kernel)) (fun _ _ _ _ _ => (pg_tup rfl (pgs_cons (pg_name (i := 4) sc_mixed_alone.nd rfl (Or.inl rfl)) (pgs_cons (pg_name (i := 5) sc_mixed_alone.nd rfl (Or.inl rfl)) (pgs_cons (pg_name (i := 6) sc_mixed_alone.nd rfl (Or.inl rfl)) pgs_nil))))) (fun _ _ _ _ _ => pts_nil) (fun _ _ _ _ _ => (pv 4))) (pa_cons pe_non (pa_cons (pe_lst (pa_cons (pe_tup (pa_cons (pv 2) (pa_cons pe_non pa_nil))) pa_nil)) pa_nil)))))))), ?_⟩
    obtain ⟨a, l, v2, ga, xl, xg, rfl, ht, hl, hla, h2, hgl, hga⟩ := Th.bak hx
    obtain ⟨vg, hv, hvg⟩ := hga.get' (i := 0) (d := goodD g) rfl
    obtain ⟨tg, ad, xs, rfl, htg, hsg, hag⟩ := hvg.good
    obtain ⟨yp, xs0, rfl, hys, hya⟩ := Th.doughs hy
    have hxl := hag.length
    rw [List.length_map] at hxl
    have hyl := hya.length
    rw [List.length_map] at hyl
    walk_at "wp"
    refine ⟨sz100 (by decide), fun D hD => ?_⟩
    have S1 := new_but (o := .lst []) hD
    have E1 : upd H D (.lst []) D = some (.lst []) := upd_same
    generalize upd H D (.lst []) = H1 at S1 E1 ⊢
    have S1' := S1.trans (but_same _ _)
    refine ⟨_, _, Same.tup S1' ht, atI_nat (j := 2) rfl, ?_⟩
    walk_at "wp"
    refine ⟨_, _, S1'.seq hgl, atI_nat (j := 0) hv, ?_⟩
    walk_at "wp"
    refine ⟨_, _, Same.tup S1' htg, atI_nat (j := 0) rfl, ?_⟩
    walk_at "wp"
    refine ⟨_, _, S1'.seq hsg, S1'.seq hys, ?_⟩
    refine LoopR.by (walk_zip (n := g.days.length) (xs := xs) (ys := xs0) (by omega)) (fun i σ H' => ∃ y3 y4 y5 y6 : Option V, σ = [some (.ref a), some (.ref yp), some (.ref D), y3, y4, y5, y6] ∧ Same H (but [D] H') ∧ ∃ zs, H' D = some (.lst zs) ∧ zs.length = i ∧ ThAll K (but [D] H') zs (((aloneG g ds).days.take i).map dayD)) ⟨none, none, none, none, rfl, S1, [], E1, rfl, .nil⟩ (fun i σ H' _ hI => ?_) (fun i v σ K0 K1 hi hI yy => ?_) (fun σ H3 hI => ?_)
    · obtain ⟨_, _, _, _, _, S, _⟩ := hI
      have S := S.trans (but_same _ _)
      exact ⟨S.seq hsg, S.seq hys⟩
    · obtain ⟨y3, y4, y5, y6, rfl, SB, zs, eD, hzl, hzs⟩ := hI
      have SYY := ypair_same yy
      obtain ⟨T2, u1, u2, rfl, hT2, rfl, g1, g2⟩ := yy
      have g1 : xs[i]? = some u1 := g1
      have g2 : xs0[i]? = some u2 := g2
      have hday : g.days[i]? = some g.days[i] := List.getElem?_eq_getElem hi
      obtain ⟨vd, hvd, hvdd⟩ := hag.get' (i := i) (d := dayD g.days[i]) (by rw [List.getElem?_map, hday]; rfl)
      rw [hvd] at g1
      cases g1
      obtain ⟨td, rfl, htd⟩ := hvdd.day
      obtain ⟨te, hte, hte2⟩ := doughs_at hya i (by omega)
      rw [hte] at g2
      cases g2
      have eT2 : upd K0 T2 (.tup [V.ref td, V.ref te]) T2 = some (.tup [V.ref td, V.ref te]) := upd_same
      generalize upd K0 T2 (.tup [V.ref td, V.ref te]) = K2 at SYY eT2 ⊢
      have SB2 := SB.trans (but_mono SYY)
      have SF := SB2.trans (but_same _ _)
      have eD2 := SYY _ _ eD
      walk_at "wp"
      refine ⟨_, SqT.of eT2, rfl, ?_⟩
      walk_at "wp"
      refine ⟨_, Same.tup SF hte2, rfl, ?_⟩
      walk_at "wp"
      refine ⟨tyL (SqL.of eD2), _, _, Same.tup SF htd, atI_nat (j := 0) rfl, sz100 (by decide), fun p hp => ?_⟩
      obtain ⟨K3, e3, S3, E3⟩ := alloc (.tup [V.int g.days[i].want, V.int (dghAt ds i).dough, V.int (dghAt ds i).hold, V.non]) hp
      rw [e3]
      have eD3 := S3 _ _ eD2
      have np : p ≠ D := fun z => by rw [z, eD2] at hp; cases hp
      refine ⟨_, eD3, sz100l (by omega), _, _, _, _, ⟨rfl, rfl, rfl, rfl⟩, mut_but (SB2.trans (but_mono S3)), zs ++ [.ref p], upd_same, by rw [List.length_append, hzl]; rfl, ?_⟩
      rw [but_upd (List.mem_singleton.mpr rfl)]
      have ed : (aloneG g ds).days[i]? = some ⟨g.days[i].want, (dghAt ds i).dough, (dghAt ds i).hold, none⟩ := by
        rw [alone_at, hday]
        rfl
      rw [List.take_add_one, ed, List.map_append]
      refine (hzs.same (but_mono (SYY.trans S3))).append (.cons ?_ .nil)
      exact .tup (SqT.of (but_at (by simpa using np) E3)) (.cons (.int _) (.cons (.int _) (.cons (.int _) (.cons .non .nil))))
    · obtain ⟨y3, y4, y5, y6, rfl, SB, zs, eD, hzl, hzs⟩ := hI
      have S3 := SB.trans (but_same _ _)
      rw [List.take_of_length_le (by rw [alone_len]; omega)] at hzs
      have hzs := hzs.same (but_same _ _)
      walk_at "wp"
      refine ⟨⟨_, S3.seq hys⟩, fun D2 hD2 => ?_⟩
      refine LcR.map (walk_list (xs := xs0)) ((ds.map Dgh.mix).map V.int) hD2 (by rw [List.length_map, List.length_map, hyl]) (by omega) (fun H s => (S3.trans s).seq hys) (fun _ _ _ _ y => yat_same y) (fun k w y H0 J1 hk s1 yy hy R hR => ?_) (fun J2 s1 hH => ?_)
      · obtain ⟨rfl, hw⟩ := yy
        obtain ⟨te, hte, hte2⟩ := doughs_at hya k (by omega)
        rw [hte] at hw
        cases hw
        rw [List.getElem?_map, List.getElem?_map, List.getElem?_eq_getElem (by omega)] at hy
        cases hy
        walk_at "wp"
        refine ⟨_, Same.tup (S3.trans s1) hte2, rfl, ?_⟩
        walk_at "wp"
        rw [dghAt_of (List.getElem?_eq_getElem (by omega))]
        exact hR _ (Same.refl _)
      · refine ⟨sz100 (by decide), fun p1 hp1 => ?_⟩
        obtain ⟨J3, e1, T1, F1⟩ := alloc (.tup [V.ref D, V.non]) hp1
        rw [e1]
        refine ⟨sz100 (by decide), fun p2 hp2 => ?_⟩
        obtain ⟨J4, e2, T2, F2⟩ := alloc (.lst [V.ref p1]) hp2
        rw [e2]
        refine ⟨sz100 (by decide), fun p3 hp3 => ?_⟩
        obtain ⟨J5, e3, T3, F3⟩ := alloc (.tup [V.ref D2, V.non, V.ref p2]) hp3
        rw [e3]
        have SJ := T1.trans (T2.trans T3)
        have SA := s1.trans SJ
        refine q _ _ (S3.trans SA) (.tup (SqT.of F3) (.cons (.lst (SqL.of (SJ _ _ hH)) (ThAll.ints _)) (.cons .non (.cons (.lst (SqL.of (T3 _ _ F2)) (.cons (.tup (SqT.of ((T2.trans T3) _ _ F1)) (.cons (.lst (SqL.of (SA _ _ eD)) (hzs.same SA)) (.cons .non .nil))) .nil)) .nil))))
abbrev s_halved : Stmt := top 79
theorem sc_halved : FnScope ["_law_bakery_here", "_law_days", "_law_want", "_law_loaf", "_law_keep", "_law_fine"] ["_law_bakery_here"] (defScope s_halved) := ⟨rfl, rfl, rfl, by decide +kernel, rfl, by decide +kernel, by decide +kernel⟩
def halfD (d : Day) : Day := ⟨d.want, d.loaf / 2, d.keep, d.fine⟩
def halfG (g : Good) : Good := ⟨g.days.map halfD, g.life⟩
def spHalf (K : PySem.W.Frag) : Sp := fun vs H Q _ => ∃ x ls g, vs = [x] ∧ Th K H x (bakD ⟨ls, none, [g]⟩) ∧ g.days.length ≤ 40 ∧ ∀ (H' : Hp) (z : V), Same H H' → Th K H' z (bakD ⟨ls, none, [halfG g]⟩) → Q z H'
theorem ok_halved {f : Addr} {fd : FuncData} (F : Fun K "_law_halved" "_law_halved" s_halved f fd) : FnOk P w K mg base CX0 1 f fd ["_law_bakery_here"] (spHalf K) := by
  refine F.ok sc_halved (fun vs H Q E h => ?_) (fun cdv A outer s H vs Q E hr h => ?_)
  · obtain ⟨_, _, _, rfl, _⟩ := h
    rfl
  · obtain ⟨x, ls, g, rfl, hx, hn, q⟩ := h
    refine ⟨_, (pss_cons (ps_setLc (i := 1) (own := [("_law_want", 2), ("_law_loaf", 3), ("_law_keep", 4), ("_law_fine", 5)]) (g := (gTup K 4 (gCons (gName 2) (gCons (gName 3) (gCons (gName 4) (gCons (gName 5) gNil)))))) rfl sc_halved.nd rfl rfl (sw_true rfl rfl rfl (by decide +kernel)) (pi_list (pe_ix ix_tup (pe_ix ix_list (pe_ix ix_tup (pv 0) pe_int (fun _ _ => rfl)) pe_int (fun _ _ => rfl)) pe_int (fun _ _ => rfl))) (blkOk_by (own := [("_law_want", 2), ("_law_loaf", 3), ("_law_keep", 4), ("_law_fine", 5)]) (N := ["_law_bakery_here", "_law_days", "_law_want", "_law_loaf", "_law_keep", "_law_fine"]) (sc := defScope s_halved) (by decide +kernel)) (fun _ _ _ _ _ => (pg_tup rfl (pgs_cons (pg_name (i := 2) sc_halved.nd rfl (Or.inl rfl)) (pgs_cons (pg_name (i := 3) sc_halved.nd rfl (Or.inl rfl)) (pgs_cons (pg_name (i := 4) sc_halved.nd rfl (Or.inl rfl)) (pgs_cons (pg_name (i := 5) sc_halved.nd rfl (Or.inl rfl)) pgs_nil)))))) (fun _ _ _ _ _ => pts_nil) (fun _ _ _ _ _ => (pe_tup (pa_cons (pv 2) (pa_cons (pe_op op_fdivW (pv 3) pe_int) (pa_cons (pv 4) (pa_cons (pv 5) pa_nil)))))))
 (pss_one (ps_ret (pe_tup (pa_cons (pe_ix ix_tup (pv 0) pe_int (fun _ _ => rfl)) (pa_cons pe_non (pa_cons (pe_lst (pa_cons (pe_tup (pa_cons (pv 1) (pa_cons (pe_ix ix_tup (pe_ix ix_list (pe_ix ix_tup (pv 0) pe_int (fun _ _ => rfl)) pe_int (fun _ _ => rfl)) pe_int (fun _ _ => rfl)) pa_nil))) pa_nil)) pa_nil))))))), ?_⟩
    obtain ⟨a, l, v2, ga, xl, xg, rfl, ht, hl, hla, h2, hgl, hga⟩ := Th.bak hx
    obtain ⟨vg, hv, hvg⟩ := hga.get' (i := 0) (d := goodD g) rfl
    obtain ⟨tg, ad, xs, rfl, htg, hsg, hag⟩ := hvg.good
    have hxl := hag.length
    rw [List.length_map] at hxl
    walk_at "wp"
    refine ⟨_, _, ht, atI_nat (j := 2) rfl, ?_⟩
    walk_at "wp"
    refine ⟨_, _, hgl, atI_nat (j := 0) hv, ?_⟩
    walk_at "wp"
    refine ⟨_, _, htg, atI_nat (j := 0) rfl, ?_⟩
    walk_at "wp"
    refine ⟨⟨_, hsg⟩, fun D hD => ?_⟩
    refine LcR.build (H := H) (walk_list (xs := xs)) ((halfG g).days.map dayD) hD (by unfold halfG; rw [List.length_map, List.length_map, hxl]) (by omega) (fun H s => s.seq hsg) (fun _ _ _ _ y => yat_same y) (fun i x e H0 H2 hi s2 hacc yy he R hR => ?_) (fun H2 acc s2 ea ta => ?_)
    · obtain ⟨rfl, hxi⟩ := yy
      obtain ⟨acc, eacc⟩ := hacc
      have hday : g.days[i]? = some g.days[i] := List.getElem?_eq_getElem (by omega)
      obtain ⟨vd, hvd, hvdd⟩ := hag.get' (i := i) (d := dayD g.days[i]) (by rw [List.getElem?_map, hday]; rfl)
      rw [hvd] at hxi
      cases hxi
      obtain ⟨td, rfl, htd⟩ := hvdd.day
      unfold halfG at he
      rw [List.getElem?_map, List.getElem?_map, hday] at he
      cases he
      walk_at "wp"
      refine ⟨_, Same.tup s2 htd, rfl, ?_⟩
      walk_at "wp"
      refine ⟨⟨by decide, by decide⟩, sz100 (by decide), fun p6 h6 => ?_⟩
      refine hR _ _ (same_upd h6) ?_
      have np : p6 ≠ D := fun q => by rw [q, eacc] at h6; cases h6
      exact .tup (newBut_at (s2.free h6) np np upd_same) (.cons (.int _) (.cons (.int _) (.cons (.int _) (.cons (Tk.optV _) .nil))))
    · have hT : Tk (newOf H H2) (.ref D) (.list ((halfG g).days.map dayD)) := .lst (newOf_at hD ea) (ta.same (newBut_same _ _ _ _))
      have hth := (hT.same (newOf_same _ _)).th (K := K)
      walk_at "wp"
      refine ⟨_, _, Same.tup s2 ht, atI_nat (j := 0) rfl, _, _, Same.tup s2 ht, atI_nat (j := 2) rfl, ?_⟩
      walk_at "wp"
      refine ⟨_, _, s2.seq hgl, atI_nat (j := 0) hv, ?_⟩
      walk_at "wp"
      refine ⟨_, _, Same.tup s2 htg, atI_nat (j := 1) rfl, sz100 (by decide), fun p1 hp1 => ?_⟩
      obtain ⟨J3, e1, T1, F1⟩ := alloc (.tup [V.ref D, optV g.life]) hp1
      rw [e1]
      refine ⟨sz100 (by decide), fun p2 hp2 => ?_⟩
      obtain ⟨J4, e2, T2, F2⟩ := alloc (.lst [V.ref p1]) hp2
      rw [e2]
      refine ⟨sz100 (by decide), fun p3 hp3 => ?_⟩
      obtain ⟨J5, e3, T3, F3⟩ := alloc (.tup [V.ref l, V.non, V.ref p2]) hp3
      rw [e3]
      have SJ := T1.trans (T2.trans T3)
      exact q _ _ (s2.trans SJ) (.tup (SqT.of F3) (.cons (.lst ((s2.trans SJ).seq hl) (hla.same (s2.trans SJ))) (.cons .non (.cons (.lst (SqL.of (T3 _ _ F2)) (.cons (.tup (SqT.of ((T2.trans T3) _ _ F1)) (.cons (hth.same SJ) (.cons (Th.optV _) .nil))) .nil)) .nil))))
end
end Bk

namespace Bk
open PySem PySem.Spec PyProof.Rows L2
local macro_rules | `(tactic| walk_at "wp") => `(tactic| try simp only [rReprM_r, rMinN_r, tCKw, iZip3_eq, rZip3_r, iRng3_eq, rRng3_i, rNeN_r, tAugS, rIsDX_list, tScT2, rSetL_r, rSetOf2_r, rSorDT_r, rSetD, tDGet2, tDGet, tDNewT, cxW, rExtend_r, rSortU_r, rSetOf_r, rSortedSet_r, rNinr_r, rNeN_r, rCatL_r, rSlT_r, rListOf_r, rIsB_b, rNotB_b, tFmtO, tJs, tOst, tCallS, WE, tRaise2, rOne_i, rSorD_r, tDNewK, Int.zero_add, tNever, tFor_eq, tLc_eq, iList, iTup, iRng1_eq, rRng1_i, iRng2_eq, rRng2_i, iEnum_eq, rEnum_r, iZip_eq, rZip_r, tSl, tPart, tNoPart, rSlL_r, rCat_r, rIn_r, rNin_r, rRepr_r, iRevR, rMin_r, rShr_i, rOdd_i, rSetL_r, gSub, rRg1_i, rRg2_i, rInr_r, tAug, ipI_ii, tLstRg, tRg1, tRg2, gTup_r, gUnl_r, rInt1_b, rInt1_i, rRep_r, tStep_r, scal, tSeq, tNext, tAsg, tRet, tRetN, tIfS, tDrop, tCB, tCons, tNil, tVar, tOp, tUn, tC, rU_i, rI_ii, rI0_ii, rEq, rNe, tTest, tB, tAnd, tOr, tNot, tAndV, tOrV, tNotV, tIf, tChain, tLst, tTup, tBM, tBM0, rAppend_r, rIxL_r, rIxT_r, rMx_ii, rMn_ii, rLnL_r, rLnT_r, rIsD_int, rIsD_bool, rIsD_list, rIsD_tuple, tCall, gName, gNil_n, gCons_c, cxK, L2.start, List.map, List.replicate, List.length_cons, List.length_nil, List.cons_append, List.nil_append, List.append_nil, List.getElem?_cons_zero, List.getElem?_cons_succ, Option.some.injEq, exists_eq_left', exists_eq_left, V.int.injEq, V.bl.injEq, V.str.injEq, V.ref.injEq, List.cons.injEq, and_true, true_and, and_self, List.set, wipe, rAll_r, rSum_r, reduceCtorEq, decide_true, decide_false, reduceIte, ite_true, ite_false, if_true, if_false, Bool.false_eq_true, Bool.not_true, Bool.not_false])
local macro_rules | `(tactic| walk_at "shaped") => `(tactic| (simp only [rReprM_r, rMinN_r, tCKw, iZip3_eq, rZip3_r, iRng3_eq, rRng3_i, rNeN_r, tAugS, rIsDX_list, SeqAt.shaped, PyData.canLay0, PyData.canLayAll0, PyData.depth, PyData.depthAll]; rfl))
local macro_rules | `(tactic| walk_at "lay") => `(tactic| (simp only [rReprM_r, rMinN_r, tCKw, iZip3_eq, rZip3_r, iRng3_eq, rRng3_i, rNeN_r, tAugS, rIsDX_list, PyData.canLay0, PyData.canLayAll0]; rfl))
local macro_rules | `(tactic| walk_at "wg") => `(tactic| try simp only [gName, gTup_r, gCons_c, gNil_n, cxK, List.set, List.cons.injEq, and_true, true_and, exists_eq_left', exists_eq_left, List.length_cons, List.length_nil])
section
variable {P : Program} {w : World} {K : PySem.W.Frag} {mg : Str → Option Value} {base : Heap}
theorem bak_one {ls : List Int} {g : Good} (h1 : 1 ≤ ls.length) (h2 : ls.length ≤ 40) (h3 : ∀ z ∈ ls, numD (.int z) = true) (h4 : g.days.length = ls.length) (h5 : lifeB (optD g.life) = true) (h6 : ∀ d ∈ g.days, dayB (dayD d) = true) : bakB (bakD ⟨ls, none, [g]⟩) = true :=
  bakB_mk h1 h2 h3 rfl (Nat.le_refl 1) (show 1 ≤ 2 by decide) (fun x hx => by
    rw [List.mem_singleton.mp hx]
    exact ⟨h4, h5, h6⟩)
theorem day_ok {w l k : Int} {f : Option Int} (h1 : 0 ≤ w ∧ w ≤ 1000000000) (h2 : 0 ≤ l ∧ l ≤ 1000000000) (h3 : 0 ≤ k ∧ k ≤ 1000000000) (h4 : ∀ i, f = some i → 0 ≤ i ∧ i ≤ 1000000000) : dayB (dayD ⟨w, l, k, f⟩) = true := by
  simp only [dayD, dayB, numD, Bool.and_eq_true, decide_eq_true_eq]
  refine ⟨⟨⟨h1, h2⟩, h3⟩, ?_⟩
  cases f with
  | none => rfl
  | some i =>
    have := h4 i rfl
    simp only [optD, noneB, Bool.false_or, numD, Bool.and_eq_true, decide_eq_true_eq]
    exact this
theorem day_nums {d : Day} (h : dayB (dayD d) = true) : (0 ≤ d.want ∧ d.want ≤ 1000000000) ∧ (0 ≤ d.loaf ∧ d.loaf ≤ 1000000000) ∧ (0 ≤ d.keep ∧ d.keep ≤ 1000000000) ∧ ∀ i, d.fine = some i → 0 ≤ i ∧ i ≤ 1000000000 := by
  simp only [dayD, dayB, numD, Bool.and_eq_true, decide_eq_true_eq] at h
  obtain ⟨⟨⟨h1, h2⟩, h3⟩, h4⟩ := h
  refine ⟨h1, h2, h3, fun i e => ?_⟩
  rw [e] at h4
  simp only [optD, noneB, Bool.false_or, numD, Bool.and_eq_true, decide_eq_true_eq] at h4
  exact h4
theorem dgh_ok {m d h : Int} (h1 : 0 ≤ m ∧ m ≤ 1000000000) (h2 : 0 ≤ d ∧ d ≤ 1000000000) (h3 : 0 ≤ h ∧ h ≤ 1000000000) : dghB (dghD ⟨m, d, h⟩) = true := by
  simp only [dghB, dghD, numD, Bool.and_eq_true, decide_eq_true_eq]
  exact ⟨⟨h1, h2⟩, h3⟩
theorem dgh_nums {d : Dgh} (h : dghB (dghD d) = true) : (0 ≤ d.mix ∧ d.mix ≤ 1000000000) ∧ (0 ≤ d.dough ∧ d.dough ≤ 1000000000) ∧ (0 ≤ d.hold ∧ d.hold ≤ 1000000000) := by
  simp only [dghB, dghD, numD, Bool.and_eq_true, decide_eq_true_eq] at h
  exact ⟨h.1.1, h.1.2, h.2⟩
theorem at_nums {ds : List Dgh} {c : Int} (hc : 0 ≤ c) (h : ∀ d ∈ ds, (0 ≤ d.dough ∧ d.dough ≤ c) ∧ (0 ≤ d.hold ∧ d.hold ≤ 1000000000)) (i : Nat) : (0 ≤ (dghAt ds i).dough ∧ (dghAt ds i).dough ≤ c) ∧ (0 ≤ (dghAt ds i).hold ∧ (dghAt ds i).hold ≤ 1000000000) := by
  unfold dghAt
  rw [List.getD_eq_getElem?_getD]
  cases e : ds[i]? with
  | none => exact ⟨⟨Int.le_refl _, hc⟩, ⟨Int.le_refl _, by decide⟩⟩
  | some d => exact h d (List.mem_of_getElem? e)
theorem dear_days {g : Good} {ds : List Dgh} (h1 : ∀ d ∈ g.days, dayB (dayD d) = true) (h2 : ∀ d ∈ g.days, d.loaf ≤ 500000000) (h3 : ∀ d ∈ ds, (0 ≤ d.dough ∧ d.dough ≤ 250000000) ∧ (0 ≤ d.hold ∧ d.hold ≤ 1000000000)) : ∀ d ∈ (addE g fun b => (dghAt ds b).dough).days, dayB (dayD d) = true := fun d hd => by
  obtain ⟨i, hi⟩ := List.mem_iff_getElem?.mp hd
  unfold addE at hi
  dsimp only at hi
  rw [List.getElem?_mapIdx] at hi
  obtain ⟨d0, e1, e2⟩ := Option.map_eq_some_iff.mp hi
  have hm := List.mem_of_getElem? e1
  obtain ⟨a1, a2, a3, a4⟩ := day_nums (h1 d0 hm)
  have a5 := h2 d0 hm
  have a6 := (at_nums (c := 250000000) (by decide) h3 i).1
  rw [← e2]
  exact day_ok a1 (show 0 ≤ d0.loaf + (dghAt ds i).dough ∧ d0.loaf + (dghAt ds i).dough ≤ 1000000000 by omega) a3 a4
theorem free_days {g : Good} (h1 : ∀ d ∈ g.days, dayB (dayD d) = true) : ∀ d ∈ (freeG g).days, dayB (dayD d) = true := fun d hd => by
  unfold freeG at hd
  obtain ⟨d0, h0, rfl⟩ := List.mem_map.mp hd
  obtain ⟨a1, a2, a3, a4⟩ := day_nums (h1 d0 h0)
  exact day_ok a1 a2 a3 (fun i e => nomatch e)
theorem alone_days {g : Good} {ds : List Dgh} (h1 : ∀ d ∈ g.days, dayB (dayD d) = true) (h3 : ∀ d ∈ ds, (0 ≤ d.dough ∧ d.dough ≤ 250000000) ∧ (0 ≤ d.hold ∧ d.hold ≤ 1000000000)) : ∀ d ∈ (aloneG g ds).days, dayB (dayD d) = true := fun d hd => by
  obtain ⟨i, hi⟩ := List.mem_iff_getElem?.mp hd
  rw [alone_at] at hi
  obtain ⟨d0, e1, e2⟩ := Option.map_eq_some_iff.mp hi
  obtain ⟨a1, a2, a3, a4⟩ := day_nums (h1 d0 (List.mem_of_getElem? e1))
  obtain ⟨b1, b2⟩ := at_nums (c := 250000000) (by decide) h3 i
  rw [← e2]
  exact day_ok a1 (by omega) b2 (fun i e => nomatch e)
theorem half_days {g : Good} (h1 : ∀ d ∈ g.days, dayB (dayD d) = true) : ∀ d ∈ (halfG g).days, dayB (dayD d) = true ∧ d.loaf ≤ 500000000 := fun d hd => by
  unfold halfG at hd
  obtain ⟨d0, h0, rfl⟩ := List.mem_map.mp hd
  obtain ⟨a1, a2, a3, a4⟩ := day_nums (h1 d0 h0)
  exact ⟨day_ok a1 (by omega) a3 a4, by show d0.loaf / 2 ≤ _; omega⟩
theorem un_fit {ls : List Int} {g : Good} {L : List Row4} {es : E3} {row : Nat → Int} (hU : UnOf L es) (hpw : (es.map fun e => keyI3 e.1).Pairwise (· ≤ ·)) (hn : g.days.length = ls.length) (hk : ∀ r ∈ L, KeyD g ls.length r.k) (hpos : ∀ r ∈ L, 0 < r.m ∧ r.m ≤ 1000000000) (hlen : L.length ≤ 60) (hmet : ∀ k, k < ls.length → metC L k = wantN g k) (hl : ∀ b, 0 ≤ rowF ls b) (N : NonNegW g.days) (hlf : ∀ l, g.life = some l → 0 ≤ l) (hR : IsRow g (rowF ls) row ls.length) :
    fitPB ⟨ls, none, [g]⟩ (planD (es.map rowE)) = true ∧ (∀ r ∈ es.map rowE, FitR ⟨ls, none, [g]⟩ ls.length r) ∧ row ls.length ≤ costB ⟨ls, none, [g]⟩ (es.map rowE) := by
  have key : ∀ e ∈ es, e.1.1 < ls.length ∧ e.1.2.1 = 0 ∧ e.1.2.2 < ls.length ∧ (∃ p, loafP g e.1.1 e.1.2.2 = some p) ∧ 0 < e.2 := fun e he => by
    obtain ⟨r, hr, hz⟩ := (hU.keys e.1).mp (List.mem_map.mpr ⟨e, he, rfl⟩)
    have h := hk r hr
    have hp := hU.pos e he
    rw [← hz]
    exact ⟨h.b, rfl, h.c, h.p, hp⟩
  have hone : ∀ e ∈ es, e.2 ≤ 60000000000 := fun e he => by
    have h1 := hU.sum (fun _ => 1)
    have h2 : sumU (fun _ => 1) L ≤ (L.length : Int) * 1000000000 := by
      unfold sumU
      have : ∀ l : List Row4, (∀ r ∈ l, r.m ≤ 1000000000) → (l.map fun r => r.m * (1 : Int)).sum ≤ (l.length : Int) * 1000000000 := fun l => by
        induction l with
        | nil => intro _; simp
        | cons r l ih =>
          intro hl'
          have a1 := ih fun x hx => hl' x (List.mem_cons_of_mem _ hx)
          have a2 := hl' r List.mem_cons_self
          rw [List.map_cons, List.sum_cons, List.length_cons, show ((l.length + 1 : Nat) : Int) = (l.length : Int) + 1 by omega, Int.add_mul]
          omega
      exact this L fun r hr => (hpos r hr).2
    have h3 : e.2 ≤ sum3 (fun _ => 1) es := by
      have : ∀ l : E3, (∀ x ∈ l, 0 < x.2) → e ∈ l → e.2 ≤ sum3 (fun _ => 1) l := fun l => by
        induction l with
        | nil => exact fun _ h => nomatch h
        | cons x l ih =>
          intro hp hm
          rw [sum3_cons]
          have nn : 0 ≤ sum3 (fun _ => 1) l := by
            unfold sum3
            exact sum_nonneg' fun z hz => by
              obtain ⟨y, hy, rfl⟩ := List.mem_map.mp hz
              have := hp y (List.mem_cons_of_mem _ hy)
              show 0 ≤ y.2 * 1
              omega
          rcases List.mem_cons.mp hm with rfl | hm
          · omega
          · have := ih (fun y hy => hp y (List.mem_cons_of_mem _ hy)) hm
            have := hp x List.mem_cons_self
            omega
      exact this es hU.pos he
    have h4 : (L.length : Int) * 1000000000 ≤ 60 * 1000000000 := Int.mul_le_mul_of_nonneg_right (by omega) (by decide)
    omega
  have hmet3 : ∀ k, k < ls.length → ((es.map rowE).map fun r => if r.c = k then r.m else 0).sum = wantN g k := fun k hk' => by
    have h1 := hU.sum (ind3 k)
    have e1 : ((es.map rowE).map fun r => if r.c = k then r.m else 0).sum = sum3 (ind3 k) es := by
      unfold sum3
      rw [List.map_map]
      congr 1
      refine List.map_congr_left fun e _ => ?_
      unfold ind3
      show (if e.1.2.2 = k then e.2 else 0) = e.2 * (if e.1.2.2 = k then 1 else 0)
      split
      · rw [Int.mul_one]
      · rw [Int.mul_zero]
    have e2 : sumU (ind3 k) L = metC L k := by
      unfold sumU metC
      congr 1
      refine List.map_congr_left fun r _ => ?_
      unfold ind3
      show r.m * (if r.c = k then 1 else 0) = if r.c = k then r.m else 0
      split
      · rw [Int.mul_one]
      · rw [Int.mul_zero]
    rw [e1, h1, e2]
    exact hmet k hk'
  refine ⟨?_, fun r hr => ?_, ?_⟩
  · show (((es.map rowE).map rowD).all (prB ls.length 1) && fitP ⟨ls, none, [g]⟩ (((es.map rowE).map rowD).map rowOf)) = true
    rw [rowOf_map, Bool.and_eq_true]
    refine ⟨List.all_eq_true.mpr fun d hd => ?_, ?_⟩
    · obtain ⟨r, hr, rfl⟩ := List.mem_map.mp hd
      obtain ⟨e, he, rfl⟩ := List.mem_map.mp hr
      obtain ⟨h1, h2, h3, h4, h5⟩ := key e he
      exact prB_of ⟨h1, by show e.1.2.1 < 1; omega, h3, by show 1 ≤ e.2; omega⟩
    · unfold fitP
      rw [Bool.and_eq_true, Bool.and_eq_true, Bool.and_eq_true]
      refine ⟨⟨?_, List.all_eq_true.mpr fun r hr => ?_⟩, ?_, rfl⟩
      · unfold risesB
        refine List.all_eq_true.mpr fun i hi => ?_
        have hi := List.mem_range.mp hi
        rw [List.length_map] at hi
        have e1 : (es.map rowE)[i]? = some (rowE (es[i]'(by omega))) := by rw [List.getElem?_map, List.getElem?_eq_getElem (by omega)]; rfl
        have e2 : (es.map rowE)[i + 1]? = some (rowE (es[i + 1]'(by omega))) := by rw [List.getElem?_map, List.getElem?_eq_getElem (by omega)]; rfl
        rw [rowAt_of e1, rowAt_of e2]
        have hle := List.pairwise_iff_getElem.mp hpw i (i + 1) (by rw [List.length_map]; omega) (by rw [List.length_map]; omega) (by omega)
        rw [List.getElem_map, List.getElem_map] at hle
        have hne := List.pairwise_iff_getElem.mp hU.nd i (i + 1) (by rw [List.length_map]; omega) (by rw [List.length_map]; omega) (by omega)
        rw [List.getElem_map, List.getElem_map] at hne
        generalize es[i]'(by omega) = a at hle hne
        generalize es[i + 1]'(by omega) = b at hle hne
        obtain ⟨⟨a1, a2, a3⟩, am⟩ := a
        obtain ⟨⟨b1, b2, b3⟩, bm⟩ := b
        refine lex_lt hle fun z => hne ?_
        obtain ⟨z1, z2, z3⟩ := z
        have z1 : ((a1 : Nat) : Int) = b1 := z1
        have z2 : ((a2 : Nat) : Int) = b2 := z2
        have z3 : ((a3 : Nat) : Int) = b3 := z3
        show (a1, a2, a3) = (b1, b2, b3)
        rw [show a1 = b1 by omega, show a2 = b2 by omega, show a3 = b3 by omega]
      · obtain ⟨e, he, rfl⟩ := List.mem_map.mp hr
        obtain ⟨h1, h2, h3, ⟨p, hp⟩, h5⟩ := key e he
        unfold priceAt
        show (match [g][e.1.2.1]? with | some g => loafP g e.1.1 e.1.2.2 | none => none).isSome = true
        rw [h2]
        show (loafP g e.1.1 e.1.2.2).isSome = true
        rw [hp]
        rfl
      · unfold meetsB
        refine List.all_eq_true.mpr fun gi hg => List.all_eq_true.mpr fun dd hd => decide_eq_true ?_
        have hg0 : gi = 0 := by have := List.mem_range.mp hg; simp only [List.length_cons, List.length_nil] at this; omega
        subst hg0
        have hd1 := List.mem_range.mp hd
        show metM (es.map rowE) 0 dd = wantN g dd
        rw [← hmet3 dd hd1]
        unfold metM
        congr 1
        refine List.map_congr_left fun r hr => ?_
        obtain ⟨e, he, rfl⟩ := List.mem_map.mp hr
        have h2 : (rowE e).b = 0 := (key e he).2.1
        rw [h2]
        by_cases z : (rowE e).c = dd
        · rw [if_pos ⟨rfl, z⟩, if_pos z]
        · rw [if_neg (fun w => z w.2), if_neg z]
  · obtain ⟨e, he, rfl⟩ := List.mem_map.mp hr
    obtain ⟨h1, h2, h3, h4, h5⟩ := key e he
    have := hone e he
    exact ⟨h1, h3, ⟨by show 0 ≤ e.2; omega, by show e.2 ≤ _; omega⟩, g, by show [g][e.1.2.1]? = some g; rw [h2]; rfl, h4⟩
  · have hle := row_le_plan (L := es.map fun e => ⟨e.1.1, e.1.1, e.1.2.2, e.2⟩) hn.symm hl N hlf hR (fun r hr => by
      obtain ⟨e, he, rfl⟩ := List.mem_map.mp hr
      obtain ⟨h1, h2, h3, h4, h5⟩ := key e he
      exact ⟨Nat.le_refl _, h1, h3, h4⟩) (fun r hr => by
      obtain ⟨e, he, rfl⟩ := List.mem_map.mp hr
      exact (key e he).2.2.2.2) (fun k hk' => by
      rw [← hmet3 k hk']
      unfold metC
      rw [List.map_map, List.map_map]
      rfl)
    have ec : costD (zeroD ls.length) ls g ls.length (es.map fun e => ⟨e.1.1, e.1.1, e.1.2.2, e.2⟩) = costB ⟨ls, none, [g]⟩ (es.map rowE) := by
      unfold costD costB
      rw [litR_nought (zeroD_mix ls.length), List.map_map, List.map_map]
      have e1 : (es.map (Row4.b ∘ fun e => (⟨e.1.1, e.1.1, e.1.2.2, e.2⟩ : Row4))) = es.map (Row4.a ∘ rowE) := rfl
      rw [e1]
      have e2 : sumR (priceD (zeroD ls.length) g) (es.map fun e => ⟨e.1.1, e.1.1, e.1.2.2, e.2⟩) = sumR (priceB ⟨ls, none, [g]⟩) (es.map rowE) := by
        unfold sumR
        rw [List.map_map, List.map_map]
        congr 1
        refine List.map_congr_left fun e he => ?_
        obtain ⟨h1, h2, h3, ⟨p, hp⟩, h5⟩ := key e he
        show e.2 * (doughP (zeroD ls.length) e.1.1 e.1.1 + (loafP g e.1.1 e.1.2.2).getD 0) = e.2 * priceB ⟨ls, none, [g]⟩ e.1
        unfold priceB
        show _ = e.2 * (match [g][e.1.2.1]? with | some g => (loafP g e.1.1 e.1.2.2).getD 0 | none => 0)
        rw [h2, zeroD_dough, Int.zero_add]
        rfl
      rw [e2]
      show 0 + _ + _ = _ + _
      rw [Int.zero_add]
    rw [← ec]
    exact hle
end
end Bk

namespace Bk
open PySem PySem.Spec PyProof.Rows L2
local macro_rules | `(tactic| walk_at "wp") => `(tactic| try simp only [rReprM_r, rMinN_r, tCKw, iZip3_eq, rZip3_r, iRng3_eq, rRng3_i, rNeN_r, tAugS, rIsDX_list, tScT2, rSetL_r, rSetOf2_r, rSorDT_r, rSetD, tDGet2, tDGet, tDNewT, cxW, rExtend_r, rSortU_r, rSetOf_r, rSortedSet_r, rNinr_r, rNeN_r, rCatL_r, rSlT_r, rListOf_r, rIsB_b, rNotB_b, tFmtO, tJs, tOst, tCallS, WE, tRaise2, rOne_i, rSorD_r, tDNewK, Int.zero_add, tNever, tFor_eq, tLc_eq, iList, iTup, iRng1_eq, rRng1_i, iRng2_eq, rRng2_i, iEnum_eq, rEnum_r, iZip_eq, rZip_r, tSl, tPart, tNoPart, rSlL_r, rCat_r, rIn_r, rNin_r, rRepr_r, iRevR, rMin_r, rShr_i, rOdd_i, rSetL_r, gSub, rRg1_i, rRg2_i, rInr_r, tAug, ipI_ii, tLstRg, tRg1, tRg2, gTup_r, gUnl_r, rInt1_b, rInt1_i, rRep_r, tStep_r, scal, tSeq, tNext, tAsg, tRet, tRetN, tIfS, tDrop, tCB, tCons, tNil, tVar, tOp, tUn, tC, rU_i, rI_ii, rI0_ii, rEq, rNe, tTest, tB, tAnd, tOr, tNot, tAndV, tOrV, tNotV, tIf, tChain, tLst, tTup, tBM, tBM0, rAppend_r, rIxL_r, rIxT_r, rMx_ii, rMn_ii, rLnL_r, rLnT_r, rIsD_int, rIsD_bool, rIsD_list, rIsD_tuple, tCall, gName, gNil_n, gCons_c, cxK, L2.start, List.map, List.replicate, List.length_cons, List.length_nil, List.cons_append, List.nil_append, List.append_nil, List.getElem?_cons_zero, List.getElem?_cons_succ, Option.some.injEq, exists_eq_left', exists_eq_left, V.int.injEq, V.bl.injEq, V.str.injEq, V.ref.injEq, List.cons.injEq, and_true, true_and, and_self, List.set, wipe, rAll_r, rSum_r, reduceCtorEq, decide_true, decide_false, reduceIte, ite_true, ite_false, if_true, if_false, Bool.false_eq_true, Bool.not_true, Bool.not_false])
local macro_rules | `(tactic| walk_at "shaped") => `(tactic| (simp only [rReprM_r, rMinN_r, tCKw, iZip3_eq, rZip3_r, iRng3_eq, rRng3_i, rNeN_r, tAugS, rIsDX_list, SeqAt.shaped, PyData.canLay0, PyData.canLayAll0, PyData.depth, PyData.depthAll]; rfl))
local macro_rules | `(tactic| walk_at "lay") => `(tactic| (simp only [rReprM_r, rMinN_r, tCKw, iZip3_eq, rZip3_r, iRng3_eq, rRng3_i, rNeN_r, tAugS, rIsDX_list, PyData.canLay0, PyData.canLayAll0]; rfl))
local macro_rules | `(tactic| walk_at "wg") => `(tactic| try simp only [gName, gTup_r, gCons_c, gNil_n, cxK, List.set, List.cons.injEq, and_true, true_and, exists_eq_left', exists_eq_left, List.length_cons, List.length_nil])
section
variable {P : Program} {w : World} {K : PySem.W.Frag} {mg : Str → Option Value} {base : Heap}
abbrev s_law : Stmt := top 80
theorem sc_law : FnScope ["_law_script", "_law_bakery_here", "_law_doughs_here", "_law_days", "_law_held", "_law_fresh", "_law_free", "_law_loaves", "_law_plan", "_law_ladder", "_law_more", "_law_unmixed_here", "_law_mix", "_law_dough", "_law_hold", "_law_day_here", "_law_want", "_law_loaf", "_law_keep", "_law_fine"] ["_law_script"] (defScope s_law) := ⟨rfl, rfl, rfl, by decide +kernel, rfl, by decide +kernel, by decide +kernel⟩
structure C87 (K : PySem.W.Frag) (H : Hp) (x y z : V) (ls : List Int) (g : Good) (ds : List Dgh) : Prop where
  bak : Th K H x (bakD ⟨ls, none, [g]⟩)
  dgh : Th K H y (doughsD ds)
  days : Th K H z (.list (g.days.map dayD))
theorem C87.same {K : PySem.W.Frag} {H H' : Hp} {x y z : V} {ls : List Int} {g : Good} {ds : List Dgh} (h : C87 K H x y z ls g ds) (s : Same H H') : C87 K H' x y z ls g ds := ⟨h.bak.same s, h.dgh.same s, h.days.same s⟩
structure F87 (ls : List Int) (g : Good) (ds : List Dgh) : Prop where
  ok : bakB (bakD ⟨ls, none, [g]⟩) = true
  loaf : ∀ d ∈ g.days, d.loaf ≤ 500000000
  len : ds.length = ls.length
  dok : ∀ d ∈ ds, dghB (dghD d) = true
  dough : ∀ d ∈ ds, d.dough ≤ 250000000
  few : ls.length ≤ 8
def quartD (d : Dgh) : Dgh := ⟨d.mix, d.dough / 4, d.hold⟩
def spLaw (K : PySem.W.Frag) : Sp := fun vs H Q _ => ∃ (a : Addr) (ns : List Int), vs = [.ref a] ∧ SqL K H a (ns.map V.int) ∧ ns.length ≤ 63 ∧ ∀ H', Q (.bl true) H'
theorem ok_law {f : Addr} {fd : FuncData} (F : Fun K "law" "law" s_law f fd) (B : Bi mg) (D_bakery : Def P w K mg base "_law_bakery" 2 ["_law_script", "_law_upto", "_law_salt"] (spBakery K)) (D_halved : Def P w K mg base "_law_halved" 1 ["_law_bakery_here"] (spHalf K)) (D_doughs : Def P w K mg base "_law_doughs" 2 ["_law_script", "_law_many", "_law_salt"] (spDghs K)) (D_least : Def P w K mg base "_law_least" 11 ["_law_bakery_here", "_law_doughs_here"] (spLeastD K)) (D_least_row : Def P w K mg base "least_row" 9 ["bakery"] (spRow K)) (D_dearer : Def P w K mg base "_law_dearer" 1 ["_law_bakery_here", "_law_doughs_here"] (spDear K)) (D_mixed_alone : Def P w K mg base "_law_mixed_alone" 1 ["_law_bakery_here", "_law_doughs_here"] (spAlone K)) (D_cheapest_doughs : Def P w K mg base "cheapest_doughs" 10 ["bakery", "doughs"] (spCheapD K)) (D_unmixed : Def P w K mg base "_law_unmixed" 1 ["_law_plan"] (spUnm K)) (D_fits : Def P w K mg base "fits" 7 ["bakery", "thing"] (spFitsX K)) (D_cost_of : Def P w K mg base "cost_of" 7 ["bakery", "plan"] (spCostOf K)) : FnOk P w K mg base CX0 12 f fd ["_law_script"] (spLaw K) := by
  refine F.ok sc_law (fun vs H Q E h => ?_) (fun cdv A outer s H vs Q E hr h => ?_)
  · obtain ⟨a, ns, rfl, _⟩ := h
    rfl
  · obtain ⟨a, ns, rfl, hS, hlen, q⟩ := h
    refine ⟨_, (pss_cons (ps_set (i := 1) sc_law.nd rfl (Or.inl rfl) (pe_callD D_halved hr (by rfl) (pa_cons (pe_callD D_bakery hr (by rfl) (pa_cons (pv 0) (pa_cons pe_int (pa_cons pe_int pa_nil)))) pa_nil)))
 (pss_cons (ps_setLc (i := 2) (own := [("_law_mix", 12), ("_law_dough", 13), ("_law_hold", 14)]) (g := (gTup K 3 (gCons (gName 12) (gCons (gName 13) (gCons (gName 14) gNil))))) rfl sc_law.nd rfl rfl (sw_true rfl rfl rfl (by decide +kernel)) (pi_list (pe_callD D_doughs hr (by rfl) (pa_cons (pv 0) (pa_cons (pe_callB call_lnL (by rfl) B.len (by decide +kernel) (pa_cons (pe_ix ix_tup (pv 1) pe_int (fun _ _ => rfl)) pa_nil)) (pa_cons pe_int pa_nil))))) (blkOk_by (own := [("_law_mix", 12), ("_law_dough", 13), ("_law_hold", 14)]) (N := ["_law_script", "_law_bakery_here", "_law_doughs_here", "_law_days", "_law_held", "_law_fresh", "_law_free", "_law_loaves", "_law_plan", "_law_ladder", "_law_more", "_law_unmixed_here", "_law_mix", "_law_dough", "_law_hold", "_law_day_here", "_law_want", "_law_loaf", "_law_keep", "_law_fine"]) (sc := defScope s_law) (by decide +kernel)) (fun _ _ _ _ _ => (pg_tup rfl (pgs_cons (pg_name (i := 12) sc_law.nd rfl (Or.inl rfl)) (pgs_cons (pg_name (i := 13) sc_law.nd rfl (Or.inl rfl)) (pgs_cons (pg_name (i := 14) sc_law.nd rfl (Or.inl rfl)) pgs_nil))))) (fun _ _ _ _ _ => pts_nil) (fun _ _ _ _ _ => (pe_tup (pa_cons (pv 12) (pa_cons (pe_op op_fdivW (pv 13) pe_int) (pa_cons (pv 14) pa_nil))))))
 (pss_cons (ps_set (i := 3) sc_law.nd rfl (Or.inl rfl) (pe_ix ix_tup (pe_ix ix_list (pe_ix ix_tup (pv 1) pe_int (fun _ _ => rfl)) pe_int (fun _ _ => rfl)) pe_int (fun _ _ => rfl)))
 (pss_cons (ps_if (pt_cmpR op_ne (pe_callD D_least hr (by rfl) (pa_cons (pv 1) (pa_cons (pe_lc (own := [("_law_day_here", 15)]) (g := (gName 15)) rfl sc_law.nd (pi_list (pv 3)) (blkOk_by (own := [("_law_day_here", 15)]) (N := ["_law_script", "_law_bakery_here", "_law_doughs_here", "_law_days", "_law_held", "_law_fresh", "_law_free", "_law_loaves", "_law_plan", "_law_ladder", "_law_more", "_law_unmixed_here", "_law_mix", "_law_dough", "_law_hold", "_law_day_here", "_law_want", "_law_loaf", "_law_keep", "_law_fine"]) (sc := defScope s_law) (by decide +kernel)) (fun _ _ _ _ _ => (pg_name (i := 15) sc_law.nd rfl (Or.inl rfl))) (fun _ _ _ _ _ => pts_nil) (fun _ _ _ _ _ => (pe_tup (pa_cons pe_int (pa_cons pe_int (pa_cons pe_int pa_nil)))))) pa_nil))) (pe_ix ix_list (pe_callD D_least_row hr (by rfl) (pa_cons (pv 1) pa_nil)) (pe_un un_neg pe_int) (fun _ _ => rfl)) (nomark _)) (pss_one (ps_ret pe_bl)) pss_nil)
 (pss_cons (ps_setLc (i := 4) (own := [("_law_mix", 12), ("_law_dough", 13), ("_law_hold", 14)]) (g := (gTup K 3 (gCons (gName 12) (gCons (gName 13) (gCons (gName 14) gNil))))) rfl sc_law.nd rfl rfl (sw_true rfl rfl rfl (by decide +kernel)) (pi_list (pv 2)) (blkOk_by (own := [("_law_mix", 12), ("_law_dough", 13), ("_law_hold", 14)]) (N := ["_law_script", "_law_bakery_here", "_law_doughs_here", "_law_days", "_law_held", "_law_fresh", "_law_free", "_law_loaves", "_law_plan", "_law_ladder", "_law_more", "_law_unmixed_here", "_law_mix", "_law_dough", "_law_hold", "_law_day_here", "_law_want", "_law_loaf", "_law_keep", "_law_fine"]) (sc := defScope s_law) (by decide +kernel)) (fun _ _ _ _ _ => (pg_tup rfl (pgs_cons (pg_name (i := 12) sc_law.nd rfl (Or.inl rfl)) (pgs_cons (pg_name (i := 13) sc_law.nd rfl (Or.inl rfl)) (pgs_cons (pg_name (i := 14) sc_law.nd rfl (Or.inl rfl)) pgs_nil))))) (fun _ _ _ _ _ => pts_nil) (fun _ _ _ _ _ => (pe_tup (pa_cons pe_int (pa_cons (pv 13) (pa_cons (pe_op op_pow pe_int pe_int) pa_nil))))))
 (pss_cons (ps_if (pt_cmpR op_ne (pe_callD D_least hr (by rfl) (pa_cons (pv 1) (pa_cons (pv 4) pa_nil))) (pe_ix ix_list (pe_callD D_least_row hr (by rfl) (pa_cons (pe_callD D_dearer hr (by rfl) (pa_cons (pv 1) (pa_cons (pv 2) pa_nil))) pa_nil)) (pe_un un_neg pe_int) (fun _ _ => rfl)) (nomark _)) (pss_one (ps_ret pe_bl)) pss_nil)
 (pss_cons (ps_setLc (i := 5) (own := [("_law_want", 16), ("_law_loaf", 17), ("_law_keep", 18), ("_law_fine", 19)]) (g := (gTup K 4 (gCons (gName 16) (gCons (gName 17) (gCons (gName 18) (gCons (gName 19) gNil)))))) rfl sc_law.nd rfl rfl (sw_true rfl rfl rfl (by decide +kernel)) (pi_list (pv 3)) (blkOk_by (own := [("_law_want", 16), ("_law_loaf", 17), ("_law_keep", 18), ("_law_fine", 19)]) (N := ["_law_script", "_law_bakery_here", "_law_doughs_here", "_law_days", "_law_held", "_law_fresh", "_law_free", "_law_loaves", "_law_plan", "_law_ladder", "_law_more", "_law_unmixed_here", "_law_mix", "_law_dough", "_law_hold", "_law_day_here", "_law_want", "_law_loaf", "_law_keep", "_law_fine"]) (sc := defScope s_law) (by decide +kernel)) (fun _ _ _ _ _ => (pg_tup rfl (pgs_cons (pg_name (i := 16) sc_law.nd rfl (Or.inl rfl)) (pgs_cons (pg_name (i := 17) sc_law.nd rfl (Or.inl rfl)) (pgs_cons (pg_name (i := 18) sc_law.nd rfl (Or.inl rfl)) (pgs_cons (pg_name (i := 19) sc_law.nd rfl (Or.inl rfl)) pgs_nil)))))) (fun _ _ _ _ _ => pts_nil) (fun _ _ _ _ _ => (pe_tup (pa_cons (pv 16) (pa_cons (pv 17) (pa_cons (pv 18) (pa_cons pe_non pa_nil)))))))
 (pss_cons (ps_set (i := 6) sc_law.nd rfl (Or.inl rfl) (pe_tup (pa_cons (pe_lc (own := [("_law_day_here", 15)]) (g := (gName 15)) rfl sc_law.nd (pi_list (pv 3)) (blkOk_by (own := [("_law_day_here", 15)]) (N := ["_law_script", "_law_bakery_here", "_law_doughs_here", "_law_days", "_law_held", "_law_fresh", "_law_free", "_law_loaves", "_law_plan", "_law_ladder", "_law_more", "_law_unmixed_here", "_law_mix", "_law_dough", "_law_hold", "_law_day_here", "_law_want", "_law_loaf", "_law_keep", "_law_fine"]) (sc := defScope s_law) (by decide +kernel)) (fun _ _ _ _ _ => (pg_name (i := 15) sc_law.nd rfl (Or.inl rfl))) (fun _ _ _ _ _ => pts_nil) (fun _ _ _ _ _ => pe_int)) (pa_cons pe_non (pa_cons (pe_lst (pa_cons (pe_tup (pa_cons (pv 5) (pa_cons pe_int pa_nil))) pa_nil)) pa_nil)))))
 (pss_cons (ps_set (i := 7) sc_law.nd rfl (Or.inl rfl) (pe_callB (cr_sum rfl) (by rfl) B.sum (by decide +kernel) (pa_cons (pe_lc (own := [("_law_want", 16), ("_law_loaf", 17), ("_law_keep", 18), ("_law_fine", 19)]) (g := (gTup K 4 (gCons (gName 16) (gCons (gName 17) (gCons (gName 18) (gCons (gName 19) gNil)))))) rfl sc_law.nd (pi_list (pv 3)) (blkOk_by (own := [("_law_want", 16), ("_law_loaf", 17), ("_law_keep", 18), ("_law_fine", 19)]) (N := ["_law_script", "_law_bakery_here", "_law_doughs_here", "_law_days", "_law_held", "_law_fresh", "_law_free", "_law_loaves", "_law_plan", "_law_ladder", "_law_more", "_law_unmixed_here", "_law_mix", "_law_dough", "_law_hold", "_law_day_here", "_law_want", "_law_loaf", "_law_keep", "_law_fine"]) (sc := defScope s_law) (by decide +kernel)) (fun _ _ _ _ _ => (pg_tup rfl (pgs_cons (pg_name (i := 16) sc_law.nd rfl (Or.inl rfl)) (pgs_cons (pg_name (i := 17) sc_law.nd rfl (Or.inl rfl)) (pgs_cons (pg_name (i := 18) sc_law.nd rfl (Or.inl rfl)) (pgs_cons (pg_name (i := 19) sc_law.nd rfl (Or.inl rfl)) pgs_nil)))))) (fun _ _ _ _ _ => pts_nil) (fun _ _ _ _ _ => (pe_op op_mul (pv 16) (pv 17)))) pa_nil)))
 (pss_cons (ps_if (pt_cmpR op_ne (pe_callD D_least hr (by rfl) (pa_cons (pv 6) (pa_cons (pv 2) pa_nil))) (pe_op op_add (pe_ix ix_list (pe_callD D_least_row hr (by rfl) (pa_cons (pe_callD D_mixed_alone hr (by rfl) (pa_cons (pv 1) (pa_cons (pv 2) pa_nil))) pa_nil)) (pe_un un_neg pe_int) (fun _ _ => rfl)) (pv 7)) (nomark _)) (pss_one (ps_ret pe_bl)) pss_nil)
 (pss_cons (ps_asg (pe_callD D_cheapest_doughs hr (by rfl) (pa_cons (pv 1) (pa_cons (pv 2) pa_nil))) (pg_tup rfl (pgs_cons (pg_name (i := 8) sc_law.nd rfl (Or.inl rfl)) (pgs_cons (pg_name (i := 9) sc_law.nd rfl (Or.inl rfl)) pgs_nil))))
 (pss_cons (ps_setLc (i := 10) (own := [("_law_mix", 12), ("_law_dough", 13), ("_law_hold", 14)]) (g := (gTup K 3 (gCons (gName 12) (gCons (gName 13) (gCons (gName 14) gNil))))) rfl sc_law.nd rfl rfl (sw_true rfl rfl rfl (by decide +kernel)) (pi_list (pv 2)) (blkOk_by (own := [("_law_mix", 12), ("_law_dough", 13), ("_law_hold", 14)]) (N := ["_law_script", "_law_bakery_here", "_law_doughs_here", "_law_days", "_law_held", "_law_fresh", "_law_free", "_law_loaves", "_law_plan", "_law_ladder", "_law_more", "_law_unmixed_here", "_law_mix", "_law_dough", "_law_hold", "_law_day_here", "_law_want", "_law_loaf", "_law_keep", "_law_fine"]) (sc := defScope s_law) (by decide +kernel)) (fun _ _ _ _ _ => (pg_tup rfl (pgs_cons (pg_name (i := 12) sc_law.nd rfl (Or.inl rfl)) (pgs_cons (pg_name (i := 13) sc_law.nd rfl (Or.inl rfl)) (pgs_cons (pg_name (i := 14) sc_law.nd rfl (Or.inl rfl)) pgs_nil))))) (fun _ _ _ _ _ => pts_nil) (fun _ _ _ _ _ => (pe_tup (pa_cons (pv 12) (pa_cons (pe_op op_add (pv 13) pe_int) (pa_cons (pv 14) pa_nil))))))
 (pss_cons (ps_if (pt_cmpR op_ne (pe_callD D_least hr (by rfl) (pa_cons (pv 1) (pa_cons (pv 10) pa_nil))) (pe_op op_add (pe_ix ix_list (pe_ix ix_tup (pv 9) pe_int (fun _ _ => rfl)) (pe_un un_neg pe_int) (fun _ _ => rfl)) (pe_op op_mul pe_int (pe_callB (cr_sum rfl) (by rfl) B.sum (by decide +kernel) (pa_cons (pe_lc (own := [("_law_day_here", 15)]) (g := (gName 15)) (te := (tOp (rIxT K) _ _)) rfl sc_law.nd (pi_list (pv 3)) (blkOk_by (own := [("_law_day_here", 15)]) (N := ["_law_script", "_law_bakery_here", "_law_doughs_here", "_law_days", "_law_held", "_law_fresh", "_law_free", "_law_loaves", "_law_plan", "_law_ladder", "_law_more", "_law_unmixed_here", "_law_mix", "_law_dough", "_law_hold", "_law_day_here", "_law_want", "_law_loaf", "_law_keep", "_law_fine"]) (sc := defScope s_law) (by decide +kernel)) (fun _ _ _ _ _ => (pg_name (i := 15) sc_law.nd rfl (Or.inl rfl))) (fun _ _ _ _ _ => pts_nil) (fun _ _ _ _ _ => (pe_ix ix_tup (pv 15) pe_int (fun _ _ => rfl)))) pa_nil)))) (nomark _)) (pss_one (ps_ret pe_bl)) pss_nil)
 (pss_cons (ps_set (i := 11) sc_law.nd rfl (Or.inl rfl) (pe_callD D_unmixed hr (by rfl) (pa_cons (pv 8) pa_nil)))
 (pss_one (ps_ret (pe_and (pe_cmpR op_isBl (pe_callD D_fits hr (by rfl) (pa_cons (pv 1) (pa_cons (pv 11) pa_nil))) pe_bl (nomark _)) (pe_one (pe_cmpR op_ge (pe_callD D_cost_of hr (by rfl) (pa_cons (pv 1) (pa_cons (pv 11) pa_nil))) (pe_ix ix_list (pe_callD D_least_row hr (by rfl) (pa_cons (pv 1) pa_nil)) (pe_un un_neg pe_int) (fun _ _ => rfl)) (nomark _)))))))))))))))))))), ?_⟩
    refine seq3 (fun σ' H' => ∃ (x y z : V) (ls : List Int) (g : Good) (ds : List Dgh), σ' = [some (.ref a), some x, some y, some z, none, none, none, none, none, none, none, none, none, none, none, none, none, none, none, none] ∧ C87 K H' x y z ls g ds ∧ F87 ls g ds) (fun σ1 H5 hm => ?_) (fun N hN => ?_)
    rotate_left
    · walk_at "wp"
      refine ⟨a, ns, 9, 8700, rfl, hS, hlen, by decide, by decide, by decide, fun H1 x ls g S1 hx hb hll => ?_⟩
      have hx1 := (hx.same (newOf_same _ _)).th (K := K)
      obtain ⟨⟨c1, c2⟩, c3, _, _, c7⟩ := bak_parts hb
      obtain ⟨c8, c9, hok⟩ := c7 g (List.mem_singleton.mpr rfl)
      dsimp only at c1 c2 c3 c8
      have hn8 : ls.length ≤ 8 := by rw [hll]; unfold nDays; omega
      refine ⟨x, ls, g, rfl, hx1, by omega, fun H2 z S2 hz => ?_⟩
      have hz0 := hz
      obtain ⟨ta, l, v2, ga, xl, xg, rfl, ht, hl, hla, h2, hgl, hga⟩ := Th.bak hz
      have hxl : xl = ls.map V.int := hla.intsV
      obtain ⟨vg, hv, hvg⟩ := hga.get' (i := 0) (d := goodD (halfG g)) rfl
      obtain ⟨tg, ad, xs, rfl, htg, hsg, hag⟩ := hvg.good
      walk_at "wp"
      refine ⟨_, _, ht, atI_nat (j := 0) rfl, ?_⟩
      walk_at "wp"
      refine ⟨_, hl, ?_⟩
      rw [hxl, List.length_map]
      refine ⟨a, ns, ls.length, 8710, rfl, (S1.trans S2).seq hS, by omega, by decide, by decide, fun H3 pd ds S3 hT2 hdl hds => ?_⟩
      have hy2 := (hT2.same (newOf_same _ _)).th (K := K)
      obtain ⟨yp, xs0, hyp, hys, hya⟩ := Th.doughs hy2
      cases hyp
      have hyl := hya.length
      rw [List.length_map] at hyl
      walk_at "wp"
      refine ⟨⟨_, hys⟩, fun D hD => ?_⟩
      refine LcR.build (H := H3) (walk_list (xs := xs0)) ((ds.map quartD).map dghD) hD (by rw [List.length_map, List.length_map, hyl]) (by omega) (fun H s => s.seq hys) (fun _ _ _ _ y => yat_same y) (fun i x e H0 K2 hi s2 hacc yy he R hR => ?_) (fun K2 acc s2 ea ta' => ?_)
      · obtain ⟨rfl, hxi⟩ := yy
        obtain ⟨acc, eacc⟩ := hacc
        obtain ⟨te, hte, hte2⟩ := doughs_at hya i (by omega)
        rw [hte] at hxi
        cases hxi
        rw [List.getElem?_map, List.getElem?_map, List.getElem?_eq_getElem (by omega)] at he
        cases he
        walk_at "wp"
        refine ⟨_, Same.tup s2 hte2, rfl, ?_⟩
        walk_at "wp"
        refine ⟨⟨by decide, by decide⟩, sz100 (by decide), fun p6 h6 => ?_⟩
        refine hR _ _ (same_upd h6) ?_
        have np : p6 ≠ D := fun q => by rw [q, eacc] at h6; cases h6
        rw [dghAt_of (List.getElem?_eq_getElem (by omega))]
        exact .tup (newBut_at (s2.free h6) np np upd_same) (.cons (.int _) (.cons (.int _) (.cons (.int _) .nil)))
      · have hT : Tk (newOf H3 K2) (.ref D) (doughsD (ds.map quartD)) := .lst (newOf_at hD ea) (ta'.same (newBut_same _ _ _ _))
        have hth := (hT.same (newOf_same _ _)).th (K := K)
        have S4 := S3.trans s2
        walk_at "wp"
        refine ⟨_, _, Same.tup S4 ht, atI_nat (j := 2) rfl, ?_⟩
        walk_at "wp"
        refine ⟨_, _, S4.seq hgl, atI_nat (j := 0) hv, ?_⟩
        walk_at "wp"
        refine ⟨_, _, Same.tup S4 htg, atI_nat (j := 0) rfl, ?_⟩
        have hhd := half_days hok
        refine hN _ _ ⟨_, _, _, ls, halfG g, ds.map quartD, rfl, ⟨hz0.same S4, hth, .lst (S4.seq hsg) (hag.same S4)⟩, ⟨bak_one (by omega) c2 c3 (by unfold halfG; dsimp only; rw [List.length_map, c8]) c9 fun d hd => (hhd d hd).1, fun d hd => (hhd d hd).2, by rw [List.length_map, hdl], fun d hd => ?_, fun d hd => ?_, hn8⟩⟩
        · obtain ⟨d0, h0, rfl⟩ := List.mem_map.mp hd
          obtain ⟨b1, b2, b3⟩ := dgh_nums (hds d0 h0)
          exact dgh_ok b1 (by omega) b3
        · obtain ⟨d0, h0, rfl⟩ := List.mem_map.mp hd
          obtain ⟨b1, b2, b3⟩ := dgh_nums (hds d0 h0)
          show d0.dough / 4 ≤ _
          omega
    · obtain ⟨x, y, z, ls, g, ds, rfl, C, Fc⟩ := hm
      obtain ⟨⟨c1, c2⟩, c3, _, _, c7⟩ := bak_parts Fc.ok
      obtain ⟨c8, c9, hok⟩ := c7 g (List.mem_singleton.mpr rfl)
      dsimp only at c1 c2 c3 c8
      have hdl := Fc.len
      have hn8 := Fc.few
      have nn := fun b => (light_nn c3 b).1
      have hlf := life_ok c9
      have hNW : NonNegW g.days := nonNegW_of hok
      have hdn : ∀ d ∈ ds, (0 ≤ d.dough ∧ d.dough ≤ 250000000) ∧ (0 ≤ d.hold ∧ d.hold ≤ 1000000000) := fun d hd => by
        obtain ⟨b1, b2, b3⟩ := dgh_nums (Fc.dok d hd)
        exact ⟨⟨b2.1, Fc.dough d hd⟩, b3⟩
      have hmix := dgh_nn Fc.dok
      -- doughs of nothing
      refine seq1 (fun σ' H' => ∃ y15 : Option V, σ' = [some (.ref a), some x, some y, some z, none, none, none, none, none, none, none, none, none, none, none, y15, none, none, none, none] ∧ C87 K H' x y z ls g ds) (fun σ1 H6 hm => ?_) (fun N hN => ?_)
      rotate_left
      · obtain ⟨dd, hzd⟩ : ∃ d, d = PyData.list (g.days.map dayD) := ⟨_, rfl⟩
        have hz := C.days
        cases hz with
        | @lst pz zs _ hzs hza =>
        have hzl := hza.length
        rw [List.length_map] at hzl
        walk_at "wp"
        refine ⟨⟨_, hzs⟩, fun D hD => ?_⟩
        refine LcR.build (H := H5) (walk_list (xs := zs)) ((zeroD ls.length).map dghD) hD (by unfold zeroD; rw [List.length_map, List.length_replicate]; omega) (by omega) (fun H s => s.seq hzs) (fun _ _ _ _ y => yat_same y) (fun i x e H0 K2 hi s2 hacc yy he R hR => ?_) (fun K2 acc s2 ea ta' => ?_)
        · obtain ⟨rfl, hxi⟩ := yy
          obtain ⟨acc, eacc⟩ := hacc
          unfold zeroD at he
          rw [List.getElem?_map, List.getElem?_replicate_of_lt (by omega)] at he
          cases he
          walk_at "wp"
          refine ⟨sz100 (by decide), fun p6 h6 => ?_⟩
          refine hR _ _ (same_upd h6) ?_
          have np : p6 ≠ D := fun q => by rw [q, eacc] at h6; cases h6
          exact .tup (newBut_at (s2.free h6) np np upd_same) (.cons (.int _) (.cons (.int _) (.cons (.int _) .nil)))
        · have hT : Tk (newOf H5 K2) (.ref D) (doughsD (zeroD ls.length)) := .lst (newOf_at hD ea) (ta'.same (newBut_same _ _ _ _))
          have hth := (hT.same (newOf_same _ _)).th (K := K)
          have C2 := C.same s2
          have zl : (zeroD ls.length).length = ls.length := by unfold zeroD; rw [List.length_replicate]
          refine ⟨x, ls, g, _, zeroD ls.length, rfl, C2.bak, Fc.ok, hth, zl, fun d hd => by rw [List.eq_of_mem_replicate hd]; rfl, by omega, fun H7 F7 M7 S7 hB => ?_⟩
          have C7 := C2.same S7
          refine ⟨x, ls, g, rfl, C7.bak, Fc.ok, fun H8 p8 rs S8 _ e8 hrl hR => ?_⟩
          have lastR : atI (rs.map V.int) (-1) = some (.int (rowF rs ls.length)) := atI_last (m := ls.length) (by rw [List.length_map, hrl]) (by rw [List.getElem?_map, rowF_at (by omega)]; rfl)
          have eq : F7 g.days.length = rowF rs ls.length := by
            obtain ⟨ar, hA, hA2⟩ := zero_bld (n := ls.length) (by omega) nn hNW hlf hR
            rw [c8] at hB ⊢
            rw [(hB.ext hA ls.length (Nat.le_refl _)).1, hA2]
          walk_at "wp"
          refine ⟨_, _, SqL.of e8, lastR, rfl, ?_⟩
          rw [eq, if_neg (by rw [decide_eq_true rfl]; decide)]
          exact hN _ _ ⟨_, rfl, C7.same S8⟩
      obtain ⟨y15, rfl, C6⟩ := hm
      clear C
      -- doughs that are held never
      refine seq2 (fun σ' H' => ∃ v4 y12 y13 y14 : Option V, σ' = [some (.ref a), some x, some y, some z, v4, none, none, none, none, none, none, none, y12, y13, y14, y15, none, none, none, none] ∧ C87 K H' x y z ls g ds) (fun σ1 H7 hm => ?_) (fun N hN => ?_)
      rotate_left
      · obtain ⟨yp, xs0, hyp, hys, hya⟩ := Th.doughs C6.dgh
        subst hyp
        have hyl := hya.length
        rw [List.length_map] at hyl
        walk_at "wp"
        refine ⟨⟨_, hys⟩, fun D hD => ?_⟩
        refine LcR.build (H := H6) (walk_list (xs := xs0)) ((heldD ds).map dghD) hD (by unfold heldD; rw [List.length_map, List.length_map, hyl]) (by omega) (fun H s => s.seq hys) (fun _ _ _ _ y => yat_same y) (fun i x e H0 K2 hi s2 hacc yy he R hR => ?_) (fun K2 acc s2 ea ta' => ?_)
        · obtain ⟨rfl, hxi⟩ := yy
          obtain ⟨acc, eacc⟩ := hacc
          obtain ⟨te, hte, hte2⟩ := doughs_at hya i (by omega)
          rw [hte] at hxi
          cases hxi
          unfold heldD at he
          rw [List.getElem?_map, List.getElem?_map, List.getElem?_eq_getElem (by omega)] at he
          cases he
          walk_at "wp"
          refine ⟨_, Same.tup s2 hte2, rfl, ?_⟩
          walk_at "wp"
          refine ⟨⟨by decide, by decide, by decide⟩, sz100 (by decide), fun p6 h6 => ?_⟩
          refine hR _ _ (same_upd h6) ?_
          have np : p6 ≠ D := fun q => by rw [q, eacc] at h6; cases h6
          rw [dghAt_of (List.getElem?_eq_getElem (by omega))]
          exact .tup (newBut_at (s2.free h6) np np upd_same) (.cons (.int _) (.cons (.int _) (.cons (.int _) .nil)))
        · have hT : Tk (newOf H6 K2) (.ref D) (doughsD (heldD ds)) := .lst (newOf_at hD ea) (ta'.same (newBut_same _ _ _ _))
          have hth := (hT.same (newOf_same _ _)).th (K := K)
          have C2 := C6.same s2
          have hlen : (heldD ds).length = ls.length := by unfold heldD; rw [List.length_map, hdl]
          walk_at "wp"
          refine ⟨x, ls, g, _, heldD ds, rfl, C2.bak, Fc.ok, hth, hlen, fun d hd => ?_, by omega, fun H8 F8 M8 S8 hB => ?_⟩
          · unfold heldD at hd
            obtain ⟨d0, h0, rfl⟩ := List.mem_map.mp hd
            have := (hdn d0 h0).1
            exact dgh_ok ⟨by decide, by decide⟩ (by omega) ⟨by decide, by decide⟩
          have C8 := C2.same S8
          refine ⟨x, ls, g, _, ds, rfl, C8.bak, C8.dgh, by omega, by omega, fun H9 zb S9 hzb => ?_⟩
          have C9 := C8.same S9
          have hdd := dear_days hok Fc.loaf hdn
          refine ⟨zb, ls, _, rfl, hzb, bak_one (by omega) c2 c3 (by unfold addE; dsimp only; rw [List.length_mapIdx, c8]) c9 hdd, fun HA pA rs SA _ eA hrl hR => ?_⟩
          have lastR : atI (rs.map V.int) (-1) = some (.int (rowF rs ls.length)) := atI_last (m := ls.length) (by rw [List.length_map, hrl]) (by rw [List.getElem?_map, rowF_at (by omega)]; rfl)
          have eq : F8 g.days.length = rowF rs ls.length := by
            rw [← c8] at hR ⊢
            exact held_row hB hR rfl (by omega) nn (fun d hd => ⟨(hdn d hd).1.1, by have := (hdn d hd).1.2; omega⟩) hNW hlf
          walk_at "wp"
          refine ⟨_, _, SqL.of eA, lastR, rfl, ?_⟩
          rw [eq, if_neg (by rw [decide_eq_true rfl]; decide)]
          exact hN _ _ ⟨_, _, _, _, rfl, C9.same SA⟩
      obtain ⟨v4, y12, y13, y14, rfl, C7⟩ := hm
      clear C6
      -- free lights
      refine seq4 (fun σ' H' => ∃ v5 v6 v7 y12 y13 y14 y15 y16 y17 y18 y19 : Option V, σ' = [some (.ref a), some x, some y, some z, v4, v5, v6, v7, none, none, none, none, y12, y13, y14, y15, y16, y17, y18, y19] ∧ C87 K H' x y z ls g ds) (fun σ1 H8 hm => ?_) (fun N hN => ?_)
      rotate_left
      · have hz := C7.days
        cases hz with
        | @lst pz zs _ hzs hza =>
        have hzl := hza.length
        rw [List.length_map] at hzl
        have dayOf : ∀ {i : Nat} {v : V}, zs[i]? = some v → ∃ (d : Day) (t : Addr), g.days[i]? = some d ∧ v = .ref t ∧ SqT K H7 t [.int d.want, .int d.loaf, .int d.keep, optV d.fine] := fun {i v} hv => by
          have hi : i < g.days.length := by have := (List.getElem?_eq_some_iff.mp hv).1; omega
          have hday : g.days[i]? = some g.days[i] := List.getElem?_eq_getElem hi
          obtain ⟨vd, hvd, hvdd⟩ := hza.get' (i := i) (d := dayD g.days[i]) (by rw [List.getElem?_map, hday]; rfl)
          rw [hvd] at hv
          cases hv
          obtain ⟨td, rfl, htd⟩ := hvdd.day
          exact ⟨_, td, hday, rfl, htd⟩
        walk_at "wp"
        refine ⟨⟨_, hzs⟩, fun D hD => ?_⟩
        refine LcR.build (H := H7) (walk_list (xs := zs)) ((freeG g).days.map dayD) hD (by rw [List.length_map, free_len, hzl]) (by omega) (fun H s => s.seq hzs) (fun _ _ _ _ y => yat_same y) (fun i x e H0 K2 hi s2 hacc yy he R hR => ?_) (fun K2 acc s2 ea ta' => ?_)
        · obtain ⟨rfl, hxi⟩ := yy
          obtain ⟨acc, eacc⟩ := hacc
          obtain ⟨d, t, hday, rfl, ht⟩ := dayOf hxi
          rw [List.getElem?_map, free_at, hday] at he
          cases he
          walk_at "wp"
          refine ⟨_, Same.tup s2 ht, rfl, ?_⟩
          walk_at "wp"
          refine ⟨sz100 (by decide), fun p6 h6 => ?_⟩
          refine hR _ _ (same_upd h6) ?_
          have np : p6 ≠ D := fun q => by rw [q, eacc] at h6; cases h6
          exact .tup (newBut_at (s2.free h6) np np upd_same) (.cons (.int _) (.cons (.int _) (.cons (.int _) (.cons .non .nil))))
        · have hT : Tk (newOf H7 K2) (.ref D) (.list ((freeG g).days.map dayD)) := .lst (newOf_at hD ea) (ta'.same (newBut_same _ _ _ _))
          have hth := (hT.same (newOf_same _ _)).th (K := K)
          walk_at "wp"
          refine ⟨⟨_, s2.seq hzs⟩, fun D2 hD2 => ?_⟩
          refine LcR.map (walk_list (xs := zs)) ((List.replicate ls.length (0 : Int)).map V.int) hD2 (by rw [List.length_map, List.length_replicate]; omega) (by omega) (fun H s => (s2.trans s).seq hzs) (fun _ _ _ _ y => yat_same y) (fun k w y H0 J1 hk s1 yy hy R hR => ?_) (fun J2 s3 hH => ?_)
          · obtain ⟨rfl, hw⟩ := yy
            rw [List.getElem?_map, List.getElem?_replicate_of_lt (by omega)] at hy
            cases hy
            walk_at "wp"
            exact hR _ (Same.refl _)
          · refine ⟨sz100 (by decide), fun p1 hp1 => ?_⟩
            obtain ⟨J3, e1, T1, F1⟩ := alloc (.tup [V.ref D, V.int 0]) hp1
            rw [e1]
            refine ⟨sz100 (by decide), fun p2 hp2 => ?_⟩
            obtain ⟨J4, e2, T2, F2⟩ := alloc (.lst [V.ref p1]) hp2
            rw [e2]
            refine ⟨sz100 (by decide), fun p3 hp3 => ?_⟩
            obtain ⟨J5, e3, T3, F3⟩ := alloc (.tup [V.ref D2, V.non, V.ref p2]) hp3
            rw [e3]
            have SJ := T1.trans (T2.trans T3)
            have S25 := s3.trans SJ
            have hfree : Th K J5 (.ref p3) (bakD ⟨List.replicate ls.length 0, none, [freeG g]⟩) := .tup (SqT.of F3) (.cons (.lst (SqL.of (SJ _ _ hH)) (ThAll.ints _)) (.cons .non (.cons (.lst (SqL.of (T3 _ _ F2)) (.cons (.tup (SqT.of ((T2.trans T3) _ _ F1)) (.cons (hth.same S25) (.cons (.int 0) .nil))) .nil)) .nil)))
            have S75 := s2.trans S25
            refine ⟨⟨_, S75.seq hzs⟩, fun D3 hD3 => ?_⟩
            refine LcR.map (walk_list (xs := zs)) ((g.days.map fun d => d.want * d.loaf).map V.int) hD3 (by rw [List.length_map, List.length_map]; omega) (by omega) (fun H s => (S75.trans s).seq hzs) (fun _ _ _ _ y => yat_same y) (fun k w y H0 J1 hk s1 yy hy R hR => ?_) (fun J6 s4 hH6 => ?_)
            · obtain ⟨rfl, hw⟩ := yy
              obtain ⟨d, t, hday, rfl, ht⟩ := dayOf hw
              have hdn' := day_nums (hok d (List.mem_of_getElem? hday))
              rw [List.getElem?_map, List.getElem?_map, hday] at hy
              cases hy
              walk_at "wp"
              refine ⟨_, Same.tup (S75.trans s1) ht, rfl, ?_⟩
              walk_at "wp"
              exact ⟨.inl ⟨by omega, by omega⟩, hR _ (Same.refl _)⟩
            · walk_at "wp"
              refine ⟨_, SqL.of hH6, ?_⟩
              have S76 := S75.trans s4
              have C9 := C7.same S76
              have bfree : bakB (bakD ⟨List.replicate ls.length 0, none, [freeG g]⟩) = true := bak_one (by rw [List.length_replicate]; omega) (by rw [List.length_replicate]; omega) (fun w hw => by rw [List.eq_of_mem_replicate hw]; rfl) (by rw [free_len, List.length_replicate, c8]) rfl (free_days hok)
              have balone : bakB (bakD ⟨ds.map Dgh.mix, none, [aloneG g ds]⟩) = true := bak_one (by rw [List.length_map]; omega) (by rw [List.length_map]; omega) (fun w hw => by
                obtain ⟨d, hd, rfl⟩ := List.mem_map.mp hw
                have := (dgh_nums (Fc.dok d hd)).1
                simp only [numD, Bool.and_eq_true, decide_eq_true_eq]
                exact this) (by rw [alone_len, List.length_map]; omega) rfl (alone_days hok hdn)
              refine ⟨_, _, freeG g, _, ds, rfl, hfree.same s4, bfree, C9.dgh, by rw [List.length_replicate]; exact hdl, Fc.dok, by rw [List.length_replicate]; omega, fun H9 F9 M9 S9 hB => ?_⟩
              have CA := C9.same S9
              refine ⟨x, ls, g, _, ds, rfl, CA.bak, CA.dgh, by omega, by omega, fun HA zb SA hzb => ?_⟩
              have CB := CA.same SA
              refine ⟨zb, _, _, rfl, hzb, balone, fun HB pB rs SBb _ eB hrl hR => ?_⟩
              rw [List.length_map] at hrl hR
              have lastR : atI (rs.map V.int) (-1) = some (.int (rowF rs ls.length)) := atI_last (m := ls.length) (by rw [List.length_map, hrl]; omega) (by rw [List.getElem?_map, rowF_at (by omega)]; rfl)
              have esum : (g.days.map fun d => d.want * d.loaf).sum = sumN (fun k => wantN g k * loafN g k) g.days.length := by
                have : ∀ m, m ≤ g.days.length → ((g.days.take m).map fun d => d.want * d.loaf).sum = sumN (fun k => wantN g k * loafN g k) m := fun m => by
                  induction m with
                  | zero => exact fun _ => rfl
                  | succ m ih =>
                    intro hm
                    have hd := List.getElem?_eq_getElem (show m < g.days.length by omega)
                    rw [List.take_add_one, hd, List.map_append, sum_append', ih (by omega)]
                    show _ + (g.days[m].want * g.days[m].loaf + 0) = sumN (fun k => wantN g k * loafN g k) m + wantN g m * loafN g m
                    have e1 : wantN g m = g.days[m].want := by unfold wantN; rw [hd]
                    have e2 : loafN g m = g.days[m].loaf := by unfold loafN; rw [hd]
                    rw [e1, e2, Int.add_zero]
                have h := this g.days.length (Nat.le_refl _)
                rw [List.take_length] at h
                exact h
              have eq : F9 g.days.length = rowF rs ls.length + (g.days.map fun d => d.want * d.loaf).sum := by
                rw [esum]
                rw [free_len, ← c8] at hB
                rw [hdl, ← c8] at hR
                rw [← c8]
                exact free_row hB hR rfl (by omega) hmix (nonNegW_of (free_days hok)) (nonNegW_of (alone_days hok hdn))
              rw [free_len]
              walk_at "wp"
              refine ⟨_, _, SqL.of eB, lastR, ?_⟩
              walk_at "wp"
              rw [eq, if_neg (by rw [decide_eq_true rfl]; decide)]
              exact hN _ _ ⟨_, _, _, _, _, _, _, _, _, _, _, rfl, CB.same SBb⟩
      obtain ⟨v5, v6, v7, y12', y13', y14', y15', y16', y17', y18', y19', rfl, C8⟩ := hm
      clear C7
      obtain ⟨yp, xs0, hyp, hys, hya⟩ := Th.doughs C8.dgh
      subst hyp
      have hyl := hya.length
      rw [List.length_map] at hyl
      have hz := C8.days
      cases hz with
      | @lst pz zs _ hzs hza =>
      have hzl := hza.length
      rw [List.length_map] at hzl
      walk_at "wp"
      refine ⟨x, _, ls, g, ds, rfl, C8.bak, Fc.ok, C8.dgh, hdl, Fc.dok, by omega, fun H9 t pl lad L Fl Ml S9 e9 hC => ?_⟩
      have hT := chp_facts hC Fc.ok hdl Fc.dok (by omega)
      have hpl := hC.plan.same (newOf_same _ _)
      obtain ⟨t0, fr, mx, hlad, k1, k2⟩ := (hC.lad.lad.same (newOf_same _ _)).th (K := K)
      subst hlad
      have C9 := C8.same S9
      walk_at "wp"
      refine ⟨_, SqT.of e9, rfl, ?_⟩
      walk_at "wp"
      refine ⟨⟨_, S9.seq hys⟩, fun D hD => ?_⟩
      refine LcR.build (H := H9) (walk_list (xs := xs0)) ((moreD ds).map dghD) hD (by unfold moreD; rw [List.length_map, List.length_map, hyl]) (by omega) (fun H s => (S9.trans s).seq hys) (fun _ _ _ _ y => yat_same y) (fun i x e H0 K2 hi s2 hacc yy he R hR => ?_) (fun K2 acc s2 ea ta' => ?_)
      · obtain ⟨rfl, hxi⟩ := yy
        obtain ⟨acc, eacc⟩ := hacc
        obtain ⟨te, hte, hte2⟩ := doughs_at hya i (by omega)
        rw [hte] at hxi
        cases hxi
        unfold moreD at he
        rw [List.getElem?_map, List.getElem?_map, List.getElem?_eq_getElem (by omega)] at he
        cases he
        walk_at "wp"
        refine ⟨_, Same.tup (S9.trans s2) hte2, rfl, ?_⟩
        walk_at "wp"
        refine ⟨sz100 (by decide), fun p6 h6 => ?_⟩
        refine hR _ _ (same_upd h6) ?_
        have np : p6 ≠ D := fun q => by rw [q, eacc] at h6; cases h6
        rw [dghAt_of (List.getElem?_eq_getElem (by omega))]
        exact .tup (newBut_at (s2.free h6) np np upd_same) (.cons (.int _) (.cons (.int _) (.cons (.int _) .nil)))
      · have hT' : Tk (newOf H9 K2) (.ref D) (doughsD (moreD ds)) := .lst (newOf_at hD ea) (ta'.same (newBut_same _ _ _ _))
        have hth := (hT'.same (newOf_same _ _)).th (K := K)
        have C2 := C9.same s2
        walk_at "wp"
        refine ⟨x, ls, g, _, moreD ds, rfl, C2.bak, Fc.ok, hth, by unfold moreD; rw [List.length_map, hdl], fun d hd => ?_, by omega, fun HA FA MA SA hB => ?_⟩
        · unfold moreD at hd
          obtain ⟨d0, h0, rfl⟩ := List.mem_map.mp hd
          obtain ⟨b1, b2, b3⟩ := dgh_nums (Fc.dok d0 h0)
          have := (hdn d0 h0).1
          exact dgh_ok b1 (by omega) b3
        have CA := C2.same SA
        have S9A := s2.trans SA
        refine ⟨_, _, Same.tup S9A k1, atI_nat (j := 0) rfl, ?_⟩
        walk_at "wp"
        refine ⟨_, _, S9A.seq k2, atI_last (m := g.days.length) (by rw [List.length_map, hC.lenF]) (by rw [List.getElem?_map, rowF_at (by rw [hC.lenF]; omega)]; rfl), ?_⟩
        have S8A := S9.trans S9A
        refine ⟨⟨_, S8A.seq hzs⟩, fun D3 hD3 => ?_⟩
        refine LcR.map (walk_list (xs := zs)) ((g.days.map Day.want).map V.int) hD3 (by rw [List.length_map, List.length_map]; omega) (by omega) (fun H s => (S8A.trans s).seq hzs) (fun _ _ _ _ y => yat_same y) (fun k w y H0 J1 hk s1 yy hy R hR => ?_) (fun J6 s4 hH6 => ?_)
        · obtain ⟨rfl, hw⟩ := yy
          have hi : k < g.days.length := by omega
          have hday : g.days[k]? = some g.days[k] := List.getElem?_eq_getElem hi
          obtain ⟨vd, hvd, hvdd⟩ := hza.get' (i := k) (d := dayD g.days[k]) (by rw [List.getElem?_map, hday]; rfl)
          rw [hvd] at hw
          cases hw
          obtain ⟨td, rfl, htd⟩ := hvdd.day
          rw [List.getElem?_map, List.getElem?_map, hday] at hy
          cases hy
          walk_at "wp"
          refine ⟨_, _, Same.tup (S8A.trans s1) htd, atI_nat (j := 0) rfl, ?_⟩
          exact hR _ (Same.refl _)
        · have esum : (g.days.map Day.want).sum = sumN (wantN g) g.days.length := by
            have : ∀ m, m ≤ g.days.length → ((g.days.take m).map Day.want).sum = sumN (wantN g) m := fun m => by
              induction m with
              | zero => exact fun _ => rfl
              | succ m ih =>
                intro hm
                have hd := List.getElem?_eq_getElem (show m < g.days.length by omega)
                rw [List.take_add_one, hd, List.map_append, sum_append', ih (by omega)]
                show _ + (g.days[m].want + 0) = sumN (wantN g) m + wantN g m
                have e1 : wantN g m = g.days[m].want := by unfold wantN; rw [hd]
                rw [e1, Int.add_zero]
            have h := this g.days.length (Nat.le_refl _)
            rw [List.take_length] at h
            exact h
          have hmore := more_bld hC.bld (by omega)
          have eq : FA g.days.length = rowF Fl g.days.length + 3 * (g.days.map Day.want).sum := by
            rw [esum]
            exact (hB.ext hmore g.days.length (Nat.le_refl _)).1
          have wb : ∀ w ∈ g.days.map Day.want, 0 ≤ w ∧ w ≤ 1000000000 := fun w hw => by
            obtain ⟨d, hd, rfl⟩ := List.mem_map.mp hw
            exact (day_nums (hok d hd)).1
          walk_at "wp"
          refine ⟨_, SqL.of hH6, ?_⟩
          have hsum : ∀ l : List Int, (∀ w ∈ l, 0 ≤ w ∧ w ≤ 1000000000) → 0 ≤ l.sum ∧ l.sum ≤ (l.length : Int) * 1000000000 := fun l => by
            induction l with
            | nil => intro _; simp
            | cons w l ih =>
              intro hw
              have a1 := ih fun x hx => hw x (List.mem_cons_of_mem _ hx)
              have a2 := hw w List.mem_cons_self
              rw [List.sum_cons, List.length_cons, show ((l.length + 1 : Nat) : Int) = (l.length : Int) + 1 by omega, Int.add_mul]
              omega
          have hs1 := hsum _ wb
          rw [List.length_map] at hs1
          have hs2 : (g.days.length : Int) * 1000000000 ≤ 8 * 1000000000 := Int.mul_le_mul_of_nonneg_right (by omega) (by decide)
          refine ⟨.inl ⟨by omega, by omega⟩, ?_⟩
          rw [eq, if_neg (by rw [decide_eq_true rfl]; decide)]
          have S9J := S9A.trans s4
          have CJ := CA.same s4
          refine ⟨pl, L, rfl, hpl.same S9J, fun r hr => hT.plan.pos r hr, by have := hT.lenL; omega, fun HK pK es SK hes hU hpw => ?_⟩
          have CK := CJ.same SK
          have hrowX := row_exists g (rowF ls) ls.length (by omega) hlf nn hNW
          have hmet : ∀ k, k < ls.length → metC L k = wantN g k := fun k hk => by
            have hW := (walk_ok hC.bld (fun b => (mixF_nn Fc.dok b).1) nn g.days.length g.days.length none (Nat.le_refl _) (Nat.le_refl _) (fun e he => by cases he)).1
            have e1 : metC L k = metC (planW g (WalkL ds g ls Fl Ml g.days.length g.days.length none)) k := by
              unfold metC
              exact perm_sumI (hC.perm.map _)
            rw [e1]
            exact (hW.met k).trans (if_pos (by omega))
          have hrm : ∀ r ∈ L, 0 < r.m ∧ r.m ≤ 1000000000 := fun r hr => ⟨hT.plan.pos r hr, (hT.rows r hr).2.2.2.2⟩
          have hall : ∀ {row : Nat → Int}, IsRow g (rowF ls) row ls.length → _ := fun hR => un_fit hU hpw c8 hT.plan.keys hrm (by have := hT.lenL; omega) hmet nn hNW hlf hR
          obtain ⟨row0, hR0, _⟩ := hrowX
          obtain ⟨u1, u2, _⟩ := hall hR0
          have hel : es.length ≤ 12 := by have := hU.len; have := hT.lenL; omega
          refine ⟨x, _, _, _, rfl, CK.bak, Fc.ok, .th hes, fun ds' e => by cases e; rw [List.length_map, List.length_map]; omega, fun HL SL => ?_⟩
          rw [u1]
          have CL := CK.same SL
          walk_at "wp"
          refine ⟨x, _, _, _, rfl, CL.bak, Fc.ok, hes.same SL, by rw [List.length_map]; omega, u2, fun HM SM => ?_⟩
          have CM := CL.same SM
          refine ⟨x, ls, g, rfl, CM.bak, Fc.ok, fun HN pN rs SN _ eN hrl hR => ?_⟩
          have lastR : atI (rs.map V.int) (-1) = some (.int (rowF rs ls.length)) := atI_last (m := ls.length) (by rw [List.length_map, hrl]) (by rw [List.getElem?_map, rowF_at (by omega)]; rfl)
          obtain ⟨_, _, u3⟩ := hall hR
          walk_at "wp"
          refine ⟨_, _, SqL.of eN, lastR, ?_⟩
          walk_at "wp"
          rw [decide_eq_true u3]
          exact q _
end
end Bk

namespace Bk
open PySem PySem.Spec PyProof.Rows L2
theorem all_mk {l : PySem.W.OpenLaw} {w : World} {K : PySem.W.Frag} {h : Heap} {mg : Str → Option Value} {fa f1 f2 f3 f4 f5 f6 f7 f8 f9 f10 f11 f12 f13 f14 f15 f16 f17 f18 f19 f20 f21 f22 f23 f24 f25 f26 f27 f28 f29 f30 f31 f32 f33 f34 f35 f36 f37 f38 f39 f40 f41 f42 f43 f44 f45 f46 f47 f48 f49 f50 f51 f52 f53 f54 f55 f56 f57 f58 f59 f60 : Addr} (X : K.In h) (G : h.Ns mainGlobals mg) (hfa : mg "law" = some (.ref fa))
    {od1 an1 od2 an2 od3 an3 od4 an4 od5 an5 od6 an6 od7 an7 od8 an8 od9 an9 od10 an10 od11 an11 od12 an12 od13 an13 od14 an14 od15 an15 od16 an16 od17 an17 od18 an18 od19 an19 od20 an20 od21 an21 od22 an22 od23 an23 od24 an24 od25 an25 od26 an26 od27 an27 od28 an28 od29 an29 od30 an30 od31 an31 od32 an32 od33 an33 od34 an34 od35 an35 od36 an36 od37 an37 od38 an38 od39 an39 od40 an40 od41 an41 od42 an42 od43 an43 od44 an44 od45 an45 od46 an46 od47 an47 od48 an48 od49 an49 od50 an50 od51 an51 od52 an52 od53 an53 od54 an54 od55 an55 od56 an56 od57 an57 od58 an58 od59 an59 od60 an60 : Option Addr} {sl1 sl2 sl3 sl4 sl5 sl6 sl7 sl8 sl9 sl10 sl11 sl12 sl13 sl14 sl15 sl16 sl17 sl18 sl19 sl20 sl21 sl22 sl23 sl24 sl25 sl26 sl27 sl28 sl29 sl30 sl31 sl32 sl33 sl34 sl35 sl36 sl37 sl38 sl39 sl40 sl41 sl42 sl43 sl44 sl45 sl46 sl47 sl48 sl49 sl50 sl51 sl52 sl53 sl54 sl55 sl56 sl57 sl58 sl59 sl60 : Array (Option Value)} {oc1 kV1 dc1 pm1 cd1 ct1 oc2 kV2 dc2 pm2 cd2 ct2 oc3 kV3 dc3 pm3 cd3 ct3 oc4 kV4 dc4 pm4 cd4 ct4 oc5 kV5 dc5 pm5 cd5 ct5 oc6 kV6 dc6 pm6 cd6 ct6 oc7 kV7 dc7 pm7 cd7 ct7 oc8 kV8 dc8 pm8 cd8 ct8 oc9 kV9 dc9 pm9 cd9 ct9 oc10 kV10 dc10 pm10 cd10 ct10 oc11 kV11 dc11 pm11 cd11 ct11 oc12 kV12 dc12 pm12 cd12 ct12 oc13 kV13 dc13 pm13 cd13 ct13 oc14 kV14 dc14 pm14 cd14 ct14 oc15 kV15 dc15 pm15 cd15 ct15 oc16 kV16 dc16 pm16 cd16 ct16 oc17 kV17 dc17 pm17 cd17 ct17 oc18 kV18 dc18 pm18 cd18 ct18 oc19 kV19 dc19 pm19 cd19 ct19 oc20 kV20 dc20 pm20 cd20 ct20 oc21 kV21 dc21 pm21 cd21 ct21 oc22 kV22 dc22 pm22 cd22 ct22 oc23 kV23 dc23 pm23 cd23 ct23 oc24 kV24 dc24 pm24 cd24 ct24 oc25 kV25 dc25 pm25 cd25 ct25 oc26 kV26 dc26 pm26 cd26 ct26 oc27 kV27 dc27 pm27 cd27 ct27 oc28 kV28 dc28 pm28 cd28 ct28 oc29 kV29 dc29 pm29 cd29 ct29 oc30 kV30 dc30 pm30 cd30 ct30 oc31 kV31 dc31 pm31 cd31 ct31 oc32 kV32 dc32 pm32 cd32 ct32 oc33 kV33 dc33 pm33 cd33 ct33 oc34 kV34 dc34 pm34 cd34 ct34 oc35 kV35 dc35 pm35 cd35 ct35 oc36 kV36 dc36 pm36 cd36 ct36 oc37 kV37 dc37 pm37 cd37 ct37 oc38 kV38 dc38 pm38 cd38 ct38 oc39 kV39 dc39 pm39 cd39 ct39 oc40 kV40 dc40 pm40 cd40 ct40 oc41 kV41 dc41 pm41 cd41 ct41 oc42 kV42 dc42 pm42 cd42 ct42 oc43 kV43 dc43 pm43 cd43 ct43 oc44 kV44 dc44 pm44 cd44 ct44 oc45 kV45 dc45 pm45 cd45 ct45 oc46 kV46 dc46 pm46 cd46 ct46 oc47 kV47 dc47 pm47 cd47 ct47 oc48 kV48 dc48 pm48 cd48 ct48 oc49 kV49 dc49 pm49 cd49 ct49 oc50 kV50 dc50 pm50 cd50 ct50 oc51 kV51 dc51 pm51 cd51 ct51 oc52 kV52 dc52 pm52 cd52 ct52 oc53 kV53 dc53 pm53 cd53 ct53 oc54 kV54 dc54 pm54 cd54 ct54 oc55 kV55 dc55 pm55 cd55 ct55 oc56 kV56 dc56 pm56 cd56 ct56 oc57 kV57 dc57 pm57 cd57 ct57 oc58 kV58 dc58 pm58 cd58 ct58 oc59 kV59 dc59 pm59 cd59 ct59 oc60 kV60 dc60 pm60 cd60 ct60 : Value} {tk_GREATEST tk_MOST_DAYS tk_MOST_GOODS tk_LONGEST_LIFE tk_MOST_MIXED : Tok}
    (a1 : PySem.W.nsIn K mainGlobals "is_whole" = some (some (.ref f1))) (l1 : K.lookup f1 = some ⟨oc1, od1, .func (PySem.W.fnOf "is_whole" "is_whole" (defArgs s_is_whole) (defBody s_is_whole) (defScope s_is_whole) .none kV1 dc1 pm1 an1 cd1 ct1), sl1⟩) (c1 : PySem.W.codeIn K cd1 "is_whole" = true) (k1 : PySem.W.keepIn K (.ref f1) = true)
    (a2 : PySem.W.nsIn K mainGlobals "is_number" = some (some (.ref f2))) (l2 : K.lookup f2 = some ⟨oc2, od2, .func (PySem.W.fnOf "is_number" "is_number" (defArgs s_is_number) (defBody s_is_number) (defScope s_is_number) .none kV2 dc2 pm2 an2 cd2 ct2), sl2⟩) (c2 : PySem.W.codeIn K cd2 "is_number" = true) (k2 : PySem.W.keepIn K (.ref f2) = true)
    (a3 : PySem.W.nsIn K mainGlobals "is_tuple_of" = some (some (.ref f3))) (l3 : K.lookup f3 = some ⟨oc3, od3, .func (PySem.W.fnOf "is_tuple_of" "is_tuple_of" (defArgs s_is_tuple_of) (defBody s_is_tuple_of) (defScope s_is_tuple_of) .none kV3 dc3 pm3 an3 cd3 ct3), sl3⟩) (c3 : PySem.W.codeIn K cd3 "is_tuple_of" = true) (k3 : PySem.W.keepIn K (.ref f3) = true)
    (a4 : PySem.W.nsIn K mainGlobals "is_list_of" = some (some (.ref f4))) (l4 : K.lookup f4 = some ⟨oc4, od4, .func (PySem.W.fnOf "is_list_of" "is_list_of" (defArgs s_is_list_of) (defBody s_is_list_of) (defScope s_is_list_of) .none kV4 dc4 pm4 an4 cd4 ct4), sl4⟩) (c4 : PySem.W.codeIn K cd4 "is_list_of" = true) (k4 : PySem.W.keepIn K (.ref f4) = true)
    (a5 : PySem.W.nsIn K mainGlobals "are_lights" = some (some (.ref f5))) (l5 : K.lookup f5 = some ⟨oc5, od5, .func (PySem.W.fnOf "are_lights" "are_lights" (defArgs s_are_lights) (defBody s_are_lights) (defScope s_are_lights) .none kV5 dc5 pm5 an5 cd5 ct5), sl5⟩) (c5 : PySem.W.codeIn K cd5 "are_lights" = true) (k5 : PySem.W.keepIn K (.ref f5) = true)
    (a6 : PySem.W.nsIn K mainGlobals "is_bound" = some (some (.ref f6))) (l6 : K.lookup f6 = some ⟨oc6, od6, .func (PySem.W.fnOf "is_bound" "is_bound" (defArgs s_is_bound) (defBody s_is_bound) (defScope s_is_bound) .none kV6 dc6 pm6 an6 cd6 ct6), sl6⟩) (c6 : PySem.W.codeIn K cd6 "is_bound" = true) (k6 : PySem.W.keepIn K (.ref f6) = true)
    (a7 : PySem.W.nsIn K mainGlobals "is_life" = some (some (.ref f7))) (l7 : K.lookup f7 = some ⟨oc7, od7, .func (PySem.W.fnOf "is_life" "is_life" (defArgs s_is_life) (defBody s_is_life) (defScope s_is_life) .none kV7 dc7 pm7 an7 cd7 ct7), sl7⟩) (c7 : PySem.W.codeIn K cd7 "is_life" = true) (k7 : PySem.W.keepIn K (.ref f7) = true)
    (a8 : PySem.W.nsIn K mainGlobals "is_day" = some (some (.ref f8))) (l8 : K.lookup f8 = some ⟨oc8, od8, .func (PySem.W.fnOf "is_day" "is_day" (defArgs s_is_day) (defBody s_is_day) (defScope s_is_day) .none kV8 dc8 pm8 an8 cd8 ct8), sl8⟩) (c8 : PySem.W.codeIn K cd8 "is_day" = true) (k8 : PySem.W.keepIn K (.ref f8) = true)
    (a9 : PySem.W.nsIn K mainGlobals "has_bakery_form" = some (some (.ref f9))) (l9 : K.lookup f9 = some ⟨oc9, od9, .func (PySem.W.fnOf "has_bakery_form" "has_bakery_form" (defArgs s_has_bakery_form) (defBody s_has_bakery_form) (defScope s_has_bakery_form) .none kV9 dc9 pm9 an9 cd9 ct9), sl9⟩) (c9 : PySem.W.codeIn K cd9 "has_bakery_form" = true) (k9 : PySem.W.keepIn K (.ref f9) = true)
    (a10 : PySem.W.nsIn K mainGlobals "has_good_form" = some (some (.ref f10))) (l10 : K.lookup f10 = some ⟨oc10, od10, .func (PySem.W.fnOf "has_good_form" "has_good_form" (defArgs s_has_good_form) (defBody s_has_good_form) (defScope s_has_good_form) .none kV10 dc10 pm10 an10 cd10 ct10), sl10⟩) (c10 : PySem.W.codeIn K cd10 "has_good_form" = true) (k10 : PySem.W.keepIn K (.ref f10) = true)
    (a11 : PySem.W.nsIn K mainGlobals "look_at_goods" = some (some (.ref f11))) (l11 : K.lookup f11 = some ⟨oc11, od11, .func (PySem.W.fnOf "look_at_goods" "look_at_goods" (defArgs s_look_at_goods) (defBody s_look_at_goods) (defScope s_look_at_goods) .none kV11 dc11 pm11 an11 cd11 ct11), sl11⟩) (c11 : PySem.W.codeIn K cd11 "look_at_goods" = true) (k11 : PySem.W.keepIn K (.ref f11) = true)
    (a12 : PySem.W.nsIn K mainGlobals "look_at_bakery" = some (some (.ref f12))) (l12 : K.lookup f12 = some ⟨oc12, od12, .func (PySem.W.fnOf "look_at_bakery" "look_at_bakery" (defArgs s_look_at_bakery) (defBody s_look_at_bakery) (defScope s_look_at_bakery) .none kV12 dc12 pm12 an12 cd12 ct12), sl12⟩) (c12 : PySem.W.codeIn K cd12 "look_at_bakery" = true) (k12 : PySem.W.keepIn K (.ref f12) = true)
    (a13 : PySem.W.nsIn K mainGlobals "is_plain" = some (some (.ref f13))) (l13 : K.lookup f13 = some ⟨oc13, od13, .func (PySem.W.fnOf "is_plain" "is_plain" (defArgs s_is_plain) (defBody s_is_plain) (defScope s_is_plain) .none kV13 dc13 pm13 an13 cd13 ct13), sl13⟩) (c13 : PySem.W.codeIn K cd13 "is_plain" = true) (k13 : PySem.W.keepIn K (.ref f13) = true)
    (a14 : PySem.W.nsIn K mainGlobals "look_at_plain" = some (some (.ref f14))) (l14 : K.lookup f14 = some ⟨oc14, od14, .func (PySem.W.fnOf "look_at_plain" "look_at_plain" (defArgs s_look_at_plain) (defBody s_look_at_plain) (defScope s_look_at_plain) .none kV14 dc14 pm14 an14 cd14 ct14), sl14⟩) (c14 : PySem.W.codeIn K cd14 "look_at_plain" = true) (k14 : PySem.W.keepIn K (.ref f14) = true)
    (a15 : PySem.W.nsIn K mainGlobals "is_place" = some (some (.ref f15))) (l15 : K.lookup f15 = some ⟨oc15, od15, .func (PySem.W.fnOf "is_place" "is_place" (defArgs s_is_place) (defBody s_is_place) (defScope s_is_place) .none kV15 dc15 pm15 an15 cd15 ct15), sl15⟩) (c15 : PySem.W.codeIn K cd15 "is_place" = true) (k15 : PySem.W.keepIn K (.ref f15) = true)
    (a16 : PySem.W.nsIn K mainGlobals "keeps_of" = some (some (.ref f16))) (l16 : K.lookup f16 = some ⟨oc16, od16, .func (PySem.W.fnOf "keeps_of" "keeps_of" (defArgs s_keeps_of) (defBody s_keeps_of) (defScope s_keeps_of) .none kV16 dc16 pm16 an16 cd16 ct16), sl16⟩) (c16 : PySem.W.codeIn K cd16 "keeps_of" = true) (k16 : PySem.W.keepIn K (.ref f16) = true)
    (a17 : PySem.W.nsIn K mainGlobals "fines_of" = some (some (.ref f17))) (l17 : K.lookup f17 = some ⟨oc17, od17, .func (PySem.W.fnOf "fines_of" "fines_of" (defArgs s_fines_of) (defBody s_fines_of) (defScope s_fines_of) .none kV17 dc17 pm17 an17 cd17 ct17), sl17⟩) (c17 : PySem.W.codeIn K cd17 "fines_of" = true) (k17 : PySem.W.keepIn K (.ref f17) = true)
    (a18 : PySem.W.nsIn K mainGlobals "loaf_price" = some (some (.ref f18))) (l18 : K.lookup f18 = some ⟨oc18, od18, .func (PySem.W.fnOf "loaf_price" "loaf_price" (defArgs s_loaf_price) (defBody s_loaf_price) (defScope s_loaf_price) .none kV18 dc18 pm18 an18 cd18 ct18), sl18⟩) (c18 : PySem.W.codeIn K cd18 "loaf_price" = true) (k18 : PySem.W.keepIn K (.ref f18) = true)
    (a19 : PySem.W.nsIn K mainGlobals "wanted_price" = some (some (.ref f19))) (l19 : K.lookup f19 = some ⟨oc19, od19, .func (PySem.W.fnOf "wanted_price" "wanted_price" (defArgs s_wanted_price) (defBody s_wanted_price) (defScope s_wanted_price) .none kV19 dc19 pm19 an19 cd19 ct19), sl19⟩) (c19 : PySem.W.codeIn K cd19 "wanted_price" = true) (k19 : PySem.W.keepIn K (.ref f19) = true)
    (a20 : PySem.W.nsIn K mainGlobals "wanted_table" = some (some (.ref f20))) (l20 : K.lookup f20 = some ⟨oc20, od20, .func (PySem.W.fnOf "wanted_table" "wanted_table" (defArgs s_wanted_table) (defBody s_wanted_table) (defScope s_wanted_table) .none kV20 dc20 pm20 an20 cd20 ct20), sl20⟩) (c20 : PySem.W.codeIn K cd20 "wanted_table" = true) (k20 : PySem.W.keepIn K (.ref f20) = true)
    (a21 : PySem.W.nsIn K mainGlobals "least_baked_on" = some (some (.ref f21))) (l21 : K.lookup f21 = some ⟨oc21, od21, .func (PySem.W.fnOf "least_baked_on" "least_baked_on" (defArgs s_least_baked_on) (defBody s_least_baked_on) (defScope s_least_baked_on) .none kV21 dc21 pm21 an21 cd21 ct21), sl21⟩) (c21 : PySem.W.codeIn K cd21 "least_baked_on" = true) (k21 : PySem.W.keepIn K (.ref f21) = true)
    (a22 : PySem.W.nsIn K mainGlobals "least_of" = some (some (.ref f22))) (l22 : K.lookup f22 = some ⟨oc22, od22, .func (PySem.W.fnOf "least_of" "least_of" (defArgs s_least_of) (defBody s_least_of) (defScope s_least_of) .none kV22 dc22 pm22 an22 cd22 ct22), sl22⟩) (c22 : PySem.W.codeIn K cd22 "least_of" = true) (k22 : PySem.W.keepIn K (.ref f22) = true)
    (a23 : PySem.W.nsIn K mainGlobals "is_unwanted" = some (some (.ref f23))) (l23 : K.lookup f23 = some ⟨oc23, od23, .func (PySem.W.fnOf "is_unwanted" "is_unwanted" (defArgs s_is_unwanted) (defBody s_is_unwanted) (defScope s_is_unwanted) .none kV23 dc23 pm23 an23 cd23 ct23), sl23⟩) (c23 : PySem.W.codeIn K cd23 "is_unwanted" = true) (k23 : PySem.W.keepIn K (.ref f23) = true)
    (a24 : PySem.W.nsIn K mainGlobals "least_row" = some (some (.ref f24))) (l24 : K.lookup f24 = some ⟨oc24, od24, .func (PySem.W.fnOf "least_row" "least_row" (defArgs s_least_row) (defBody s_least_row) (defScope s_least_row) .none kV24 dc24 pm24 an24 cd24 ct24), sl24⟩) (c24 : PySem.W.codeIn K cd24 "least_row" = true) (k24 : PySem.W.keepIn K (.ref f24) = true)
    (a25 : PySem.W.nsIn K mainGlobals "first_baked_on" = some (some (.ref f25))) (l25 : K.lookup f25 = some ⟨oc25, od25, .func (PySem.W.fnOf "first_baked_on" "first_baked_on" (defArgs s_first_baked_on) (defBody s_first_baked_on) (defScope s_first_baked_on) .none kV25 dc25 pm25 an25 cd25 ct25), sl25⟩) (c25 : PySem.W.codeIn K cd25 "first_baked_on" = true) (k25 : PySem.W.keepIn K (.ref f25) = true)
    (a26 : PySem.W.nsIn K mainGlobals "stretch_rows" = some (some (.ref f26))) (l26 : K.lookup f26 = some ⟨oc26, od26, .func (PySem.W.fnOf "stretch_rows" "stretch_rows" (defArgs s_stretch_rows) (defBody s_stretch_rows) (defScope s_stretch_rows) .none kV26 dc26 pm26 an26 cd26 ct26), sl26⟩) (c26 : PySem.W.codeIn K cd26 "stretch_rows" = true) (k26 : PySem.W.keepIn K (.ref f26) = true)
    (a27 : PySem.W.nsIn K mainGlobals "is_plan_row" = some (some (.ref f27))) (l27 : K.lookup f27 = some ⟨oc27, od27, .func (PySem.W.fnOf "is_plan_row" "is_plan_row" (defArgs s_is_plan_row) (defBody s_is_plan_row) (defScope s_is_plan_row) .none kV27 dc27 pm27 an27 cd27 ct27), sl27⟩) (c27 : PySem.W.codeIn K cd27 "is_plan_row" = true) (k27 : PySem.W.keepIn K (.ref f27) = true)
    (a28 : PySem.W.nsIn K mainGlobals "are_rising" = some (some (.ref f28))) (l28 : K.lookup f28 = some ⟨oc28, od28, .func (PySem.W.fnOf "are_rising" "are_rising" (defArgs s_are_rising) (defBody s_are_rising) (defScope s_are_rising) .none kV28 dc28 pm28 an28 cd28 ct28), sl28⟩) (c28 : PySem.W.codeIn K cd28 "are_rising" = true) (k28 : PySem.W.keepIn K (.ref f28) = true)
    (a29 : PySem.W.nsIn K mainGlobals "have_prices" = some (some (.ref f29))) (l29 : K.lookup f29 = some ⟨oc29, od29, .func (PySem.W.fnOf "have_prices" "have_prices" (defArgs s_have_prices) (defBody s_have_prices) (defScope s_have_prices) .none kV29 dc29 pm29 an29 cd29 ct29), sl29⟩) (c29 : PySem.W.codeIn K cd29 "have_prices" = true) (k29 : PySem.W.keepIn K (.ref f29) = true)
    (a30 : PySem.W.nsIn K mainGlobals "meets_wants" = some (some (.ref f30))) (l30 : K.lookup f30 = some ⟨oc30, od30, .func (PySem.W.fnOf "meets_wants" "meets_wants" (defArgs s_meets_wants) (defBody s_meets_wants) (defScope s_meets_wants) .none kV30 dc30 pm30 an30 cd30 ct30), sl30⟩) (c30 : PySem.W.codeIn K cd30 "meets_wants" = true) (k30 : PySem.W.keepIn K (.ref f30) = true)
    (a31 : PySem.W.nsIn K mainGlobals "keeps_bound" = some (some (.ref f31))) (l31 : K.lookup f31 = some ⟨oc31, od31, .func (PySem.W.fnOf "keeps_bound" "keeps_bound" (defArgs s_keeps_bound) (defBody s_keeps_bound) (defScope s_keeps_bound) .none kV31 dc31 pm31 an31 cd31 ct31), sl31⟩) (c31 : PySem.W.codeIn K cd31 "keeps_bound" = true) (k31 : PySem.W.keepIn K (.ref f31) = true)
    (a32 : PySem.W.nsIn K mainGlobals "fits" = some (some (.ref f32))) (l32 : K.lookup f32 = some ⟨oc32, od32, .func (PySem.W.fnOf "fits" "fits" (defArgs s_fits) (defBody s_fits) (defScope s_fits) .none kV32 dc32 pm32 an32 cd32 ct32), sl32⟩) (c32 : PySem.W.codeIn K cd32 "fits" = true) (k32 : PySem.W.keepIn K (.ref f32) = true)
    (a33 : PySem.W.nsIn K mainGlobals "lit_days" = some (some (.ref f33))) (l33 : K.lookup f33 = some ⟨oc33, od33, .func (PySem.W.fnOf "lit_days" "lit_days" (defArgs s_lit_days) (defBody s_lit_days) (defScope s_lit_days) .none kV33 dc33 pm33 an33 cd33 ct33), sl33⟩) (c33 : PySem.W.codeIn K cd33 "lit_days" = true) (k33 : PySem.W.keepIn K (.ref f33) = true)
    (a34 : PySem.W.nsIn K mainGlobals "cost_of" = some (some (.ref f34))) (l34 : K.lookup f34 = some ⟨oc34, od34, .func (PySem.W.fnOf "cost_of" "cost_of" (defArgs s_cost_of) (defBody s_cost_of) (defScope s_cost_of) .none kV34 dc34 pm34 an34 cd34 ct34), sl34⟩) (c34 : PySem.W.codeIn K cd34 "cost_of" = true) (k34 : PySem.W.keepIn K (.ref f34) = true)
    (a35 : PySem.W.nsIn K mainGlobals "is_dough" = some (some (.ref f35))) (l35 : K.lookup f35 = some ⟨oc35, od35, .func (PySem.W.fnOf "is_dough" "is_dough" (defArgs s_is_dough) (defBody s_is_dough) (defScope s_is_dough) .none kV35 dc35 pm35 an35 cd35 ct35), sl35⟩) (c35 : PySem.W.codeIn K cd35 "is_dough" = true) (k35 : PySem.W.keepIn K (.ref f35) = true)
    (a36 : PySem.W.nsIn K mainGlobals "look_at_doughs" = some (some (.ref f36))) (l36 : K.lookup f36 = some ⟨oc36, od36, .func (PySem.W.fnOf "look_at_doughs" "look_at_doughs" (defArgs s_look_at_doughs) (defBody s_look_at_doughs) (defScope s_look_at_doughs) .none kV36 dc36 pm36 an36 cd36 ct36), sl36⟩) (c36 : PySem.W.codeIn K cd36 "look_at_doughs" = true) (k36 : PySem.W.keepIn K (.ref f36) = true)
    (a37 : PySem.W.nsIn K mainGlobals "dough_price" = some (some (.ref f37))) (l37 : K.lookup f37 = some ⟨oc37, od37, .func (PySem.W.fnOf "dough_price" "dough_price" (defArgs s_dough_price) (defBody s_dough_price) (defScope s_dough_price) .none kV37 dc37 pm37 an37 cd37 ct37), sl37⟩) (c37 : PySem.W.codeIn K cd37 "dough_price" = true) (k37 : PySem.W.keepIn K (.ref f37) = true)
    (a38 : PySem.W.nsIn K mainGlobals "is_dough_row" = some (some (.ref f38))) (l38 : K.lookup f38 = some ⟨oc38, od38, .func (PySem.W.fnOf "is_dough_row" "is_dough_row" (defArgs s_is_dough_row) (defBody s_is_dough_row) (defScope s_is_dough_row) .none kV38 dc38 pm38 an38 cd38 ct38), sl38⟩) (c38 : PySem.W.codeIn K cd38 "is_dough_row" = true) (k38 : PySem.W.keepIn K (.ref f38) = true)
    (a39 : PySem.W.nsIn K mainGlobals "without_doughs" = some (some (.ref f39))) (l39 : K.lookup f39 = some ⟨oc39, od39, .func (PySem.W.fnOf "without_doughs" "without_doughs" (defArgs s_without_doughs) (defBody s_without_doughs) (defScope s_without_doughs) .none kV39 dc39 pm39 an39 cd39 ct39), sl39⟩) (c39 : PySem.W.codeIn K cd39 "without_doughs" = true) (k39 : PySem.W.keepIn K (.ref f39) = true)
    (a40 : PySem.W.nsIn K mainGlobals "fits_doughs" = some (some (.ref f40))) (l40 : K.lookup f40 = some ⟨oc40, od40, .func (PySem.W.fnOf "fits_doughs" "fits_doughs" (defArgs s_fits_doughs) (defBody s_fits_doughs) (defScope s_fits_doughs) .none kV40 dc40 pm40 an40 cd40 ct40), sl40⟩) (c40 : PySem.W.codeIn K cd40 "fits_doughs" = true) (k40 : PySem.W.keepIn K (.ref f40) = true)
    (a41 : PySem.W.nsIn K mainGlobals "dough_cost" = some (some (.ref f41))) (l41 : K.lookup f41 = some ⟨oc41, od41, .func (PySem.W.fnOf "dough_cost" "dough_cost" (defArgs s_dough_cost) (defBody s_dough_cost) (defScope s_dough_cost) .none kV41 dc41 pm41 an41 cd41 ct41), sl41⟩) (c41 : PySem.W.codeIn K cd41 "dough_cost" = true) (k41 : PySem.W.keepIn K (.ref f41) = true)
    (a42 : PySem.W.nsIn K mainGlobals "dough_table" = some (some (.ref f42))) (l42 : K.lookup f42 = some ⟨oc42, od42, .func (PySem.W.fnOf "dough_table" "dough_table" (defArgs s_dough_table) (defBody s_dough_table) (defScope s_dough_table) .none kV42 dc42 pm42 an42 cd42 ct42), sl42⟩) (c42 : PySem.W.codeIn K cd42 "dough_table" = true) (k42 : PySem.W.keepIn K (.ref f42) = true)
    (a43 : PySem.W.nsIn K mainGlobals "least_mixed" = some (some (.ref f43))) (l43 : K.lookup f43 = some ⟨oc43, od43, .func (PySem.W.fnOf "least_mixed" "least_mixed" (defArgs s_least_mixed) (defBody s_least_mixed) (defScope s_least_mixed) .none kV43 dc43 pm43 an43 cd43 ct43), sl43⟩) (c43 : PySem.W.codeIn K cd43 "least_mixed" = true) (k43 : PySem.W.keepIn K (.ref f43) = true)
    (a44 : PySem.W.nsIn K mainGlobals "built" = some (some (.ref f44))) (l44 : K.lookup f44 = some ⟨oc44, od44, .func (PySem.W.fnOf "built" "built" (defArgs s_built) (defBody s_built) (defScope s_built) .none kV44 dc44 pm44 an44 cd44 ct44), sl44⟩) (c44 : PySem.W.codeIn K cd44 "built" = true) (k44 : PySem.W.keepIn K (.ref f44) = true)
    (a45 : PySem.W.nsIn K mainGlobals "last_stretches" = some (some (.ref f45))) (l45 : K.lookup f45 = some ⟨oc45, od45, .func (PySem.W.fnOf "last_stretches" "last_stretches" (defArgs s_last_stretches) (defBody s_last_stretches) (defScope s_last_stretches) .none kV45 dc45 pm45 an45 cd45 ct45), sl45⟩) (c45 : PySem.W.codeIn K cd45 "last_stretches" = true) (k45 : PySem.W.keepIn K (.ref f45) = true)
    (a46 : PySem.W.nsIn K mainGlobals "last_free_stretch" = some (some (.ref f46))) (l46 : K.lookup f46 = some ⟨oc46, od46, .func (PySem.W.fnOf "last_free_stretch" "last_free_stretch" (defArgs s_last_free_stretch) (defBody s_last_free_stretch) (defScope s_last_free_stretch) .none kV46 dc46 pm46 an46 cd46 ct46), sl46⟩) (c46 : PySem.W.codeIn K cd46 "last_free_stretch" = true) (k46 : PySem.W.keepIn K (.ref f46) = true)
    (a47 : PySem.W.nsIn K mainGlobals "walked_back" = some (some (.ref f47))) (l47 : K.lookup f47 = some ⟨oc47, od47, .func (PySem.W.fnOf "walked_back" "walked_back" (defArgs s_walked_back) (defBody s_walked_back) (defScope s_walked_back) .none kV47 dc47 pm47 an47 cd47 ct47), sl47⟩) (c47 : PySem.W.codeIn K cd47 "walked_back" = true) (k47 : PySem.W.keepIn K (.ref f47) = true)
    (a48 : PySem.W.nsIn K mainGlobals "cheapest_doughs" = some (some (.ref f48))) (l48 : K.lookup f48 = some ⟨oc48, od48, .func (PySem.W.fnOf "cheapest_doughs" "cheapest_doughs" (defArgs s_cheapest_doughs) (defBody s_cheapest_doughs) (defScope s_cheapest_doughs) .none kV48 dc48 pm48 an48 cd48 ct48), sl48⟩) (c48 : PySem.W.codeIn K cd48 "cheapest_doughs" = true) (k48 : PySem.W.keepIn K (.ref f48) = true)
    (a49 : PySem.W.nsIn K mainGlobals "_law_cell_at" = some (some (.ref f49))) (l49 : K.lookup f49 = some ⟨oc49, od49, .func (PySem.W.fnOf "_law_cell_at" "_law_cell_at" (defArgs s_cell_at) (defBody s_cell_at) (defScope s_cell_at) .none kV49 dc49 pm49 an49 cd49 ct49), sl49⟩) (c49 : PySem.W.codeIn K cd49 "_law_cell_at" = true) (k49 : PySem.W.keepIn K (.ref f49) = true)
    (a50 : PySem.W.nsIn K mainGlobals "_law_numbers" = some (some (.ref f50))) (l50 : K.lookup f50 = some ⟨oc50, od50, .func (PySem.W.fnOf "_law_numbers" "_law_numbers" (defArgs s_numbers) (defBody s_numbers) (defScope s_numbers) .none kV50 dc50 pm50 an50 cd50 ct50), sl50⟩) (c50 : PySem.W.codeIn K cd50 "_law_numbers" = true) (k50 : PySem.W.keepIn K (.ref f50) = true)
    (a51 : PySem.W.nsIn K mainGlobals "_law_day" = some (some (.ref f51))) (l51 : K.lookup f51 = some ⟨oc51, od51, .func (PySem.W.fnOf "_law_day" "_law_day" (defArgs s_day) (defBody s_day) (defScope s_day) .none kV51 dc51 pm51 an51 cd51 ct51), sl51⟩) (c51 : PySem.W.codeIn K cd51 "_law_day" = true) (k51 : PySem.W.keepIn K (.ref f51) = true)
    (a52 : PySem.W.nsIn K mainGlobals "_law_bakery" = some (some (.ref f52))) (l52 : K.lookup f52 = some ⟨oc52, od52, .func (PySem.W.fnOf "_law_bakery" "_law_bakery" (defArgs s_bakery) (defBody s_bakery) (defScope s_bakery) .none kV52 dc52 pm52 an52 cd52 ct52), sl52⟩) (c52 : PySem.W.codeIn K cd52 "_law_bakery" = true) (k52 : PySem.W.keepIn K (.ref f52) = true)
    (a53 : PySem.W.nsIn K mainGlobals "_law_doughs" = some (some (.ref f53))) (l53 : K.lookup f53 = some ⟨oc53, od53, .func (PySem.W.fnOf "_law_doughs" "_law_doughs" (defArgs s_doughs) (defBody s_doughs) (defScope s_doughs) .none kV53 dc53 pm53 an53 cd53 ct53), sl53⟩) (c53 : PySem.W.codeIn K cd53 "_law_doughs" = true) (k53 : PySem.W.keepIn K (.ref f53) = true)
    (a54 : PySem.W.nsIn K mainGlobals "_law_later" = some (some (.ref f54))) (l54 : K.lookup f54 = some ⟨oc54, od54, .func (PySem.W.fnOf "_law_later" "_law_later" (defArgs s_later) (defBody s_later) (defScope s_later) .none kV54 dc54 pm54 an54 cd54 ct54), sl54⟩) (c54 : PySem.W.codeIn K cd54 "_law_later" = true) (k54 : PySem.W.keepIn K (.ref f54) = true)
    (a55 : PySem.W.nsIn K mainGlobals "_law_least" = some (some (.ref f55))) (l55 : K.lookup f55 = some ⟨oc55, od55, .func (PySem.W.fnOf "_law_least" "_law_least" (defArgs s_least) (defBody s_least) (defScope s_least) .none kV55 dc55 pm55 an55 cd55 ct55), sl55⟩) (c55 : PySem.W.codeIn K cd55 "_law_least" = true) (k55 : PySem.W.keepIn K (.ref f55) = true)
    (a56 : PySem.W.nsIn K mainGlobals "_law_dearer" = some (some (.ref f56))) (l56 : K.lookup f56 = some ⟨oc56, od56, .func (PySem.W.fnOf "_law_dearer" "_law_dearer" (defArgs s_dearer) (defBody s_dearer) (defScope s_dearer) .none kV56 dc56 pm56 an56 cd56 ct56), sl56⟩) (c56 : PySem.W.codeIn K cd56 "_law_dearer" = true) (k56 : PySem.W.keepIn K (.ref f56) = true)
    (a57 : PySem.W.nsIn K mainGlobals "_law_mixed_alone" = some (some (.ref f57))) (l57 : K.lookup f57 = some ⟨oc57, od57, .func (PySem.W.fnOf "_law_mixed_alone" "_law_mixed_alone" (defArgs s_mixed_alone) (defBody s_mixed_alone) (defScope s_mixed_alone) .none kV57 dc57 pm57 an57 cd57 ct57), sl57⟩) (c57 : PySem.W.codeIn K cd57 "_law_mixed_alone" = true) (k57 : PySem.W.keepIn K (.ref f57) = true)
    (a58 : PySem.W.nsIn K mainGlobals "_law_unmixed" = some (some (.ref f58))) (l58 : K.lookup f58 = some ⟨oc58, od58, .func (PySem.W.fnOf "_law_unmixed" "_law_unmixed" (defArgs s_unmixed) (defBody s_unmixed) (defScope s_unmixed) .none kV58 dc58 pm58 an58 cd58 ct58), sl58⟩) (c58 : PySem.W.codeIn K cd58 "_law_unmixed" = true) (k58 : PySem.W.keepIn K (.ref f58) = true)
    (a59 : PySem.W.nsIn K mainGlobals "_law_halved" = some (some (.ref f59))) (l59 : K.lookup f59 = some ⟨oc59, od59, .func (PySem.W.fnOf "_law_halved" "_law_halved" (defArgs s_halved) (defBody s_halved) (defScope s_halved) .none kV59 dc59 pm59 an59 cd59 ct59), sl59⟩) (c59 : PySem.W.codeIn K cd59 "_law_halved" = true) (k59 : PySem.W.keepIn K (.ref f59) = true)
    (a60 : PySem.W.nsIn K mainGlobals "law" = some (some (.ref f60))) (l60 : K.lookup f60 = some ⟨oc60, od60, .func (PySem.W.fnOf "law" "law" (defArgs s_law) (defBody s_law) (defScope s_law) .none kV60 dc60 pm60 an60 cd60 ct60), sl60⟩) (c60 : PySem.W.codeIn K cd60 "law" = true) (k60 : PySem.W.keepIn K (.ref f60) = true)
    (z_len : PySem.W.nsIn K mainGlobals "len" = some none) (z_max : PySem.W.nsIn K mainGlobals "max" = some none) (z_min : PySem.W.nsIn K mainGlobals "min" = some none) (z_range : PySem.W.nsIn K mainGlobals "range" = some none) (z_isinstance : PySem.W.nsIn K mainGlobals "isinstance" = some none) (z_int : PySem.W.nsIn K mainGlobals "int" = some none) (z_bool : PySem.W.nsIn K mainGlobals "bool" = some none) (z_list : PySem.W.nsIn K mainGlobals "list" = some none) (z_tuple : PySem.W.nsIn K mainGlobals "tuple" = some none) (z_all : PySem.W.nsIn K mainGlobals "all" = some none) (z_sum : PySem.W.nsIn K mainGlobals "sum" = some none) (z_repr : PySem.W.nsIn K mainGlobals "repr" = some none) (z_enumerate : PySem.W.nsIn K mainGlobals "enumerate" = some none) (z_reversed : PySem.W.nsIn K mainGlobals "reversed" = some none) (z_sorted : PySem.W.nsIn K mainGlobals "sorted" = some none) (z_zip : PySem.W.nsIn K mainGlobals "zip" = some none) (y_GREATEST : PySem.W.nsIn K mainGlobals "GREATEST" = some (some (.int 1000000000 tk_GREATEST))) (y_MOST_DAYS : PySem.W.nsIn K mainGlobals "MOST_DAYS" = some (some (.int 40 tk_MOST_DAYS))) (y_MOST_GOODS : PySem.W.nsIn K mainGlobals "MOST_GOODS" = some (some (.int 2 tk_MOST_GOODS))) (y_LONGEST_LIFE : PySem.W.nsIn K mainGlobals "LONGEST_LIFE" = some (some (.int 40 tk_LONGEST_LIFE))) (y_MOST_MIXED : PySem.W.nsIn K mainGlobals "MOST_MIXED" = some (some (.int 12 tk_MOST_MIXED))) :
    ∃ fd : FuncData, (∀ (s : Shared) (v : Value), BindsTo s fd ⟨[v], []⟩ [("_law_script", v)]) ∧ ∀ base : Heap, K.In base → base.Ns mainGlobals mg → FnOk l.prog w K mg base CX0 12 fa fd ["_law_script"] (spLaw K) := by
  have e := hfa.symm.trans (PySem.W.mg_of X G a60)
  cases e
  have F1 := fun_mk (st := s_is_whole) l1 c1 k1
  have b1 := F1.binds (ps := ["thing"]) fun _ _ _ _ _ _ us hl => match us, hl with | [_], _ => rfl
  have F2 := fun_mk (st := s_is_number) l2 c2 k2
  have b2 := F2.binds (ps := ["thing"]) fun _ _ _ _ _ _ us hl => match us, hl with | [_], _ => rfl
  have F3 := fun_mk (st := s_is_tuple_of) l3 c3 k3
  have b3 := F3.binds (ps := ["thing", "many"]) fun _ _ _ _ _ _ us hl => match us, hl with | [_, _], _ => rfl
  have F4 := fun_mk (st := s_is_list_of) l4 c4 k4
  have b4 := F4.binds (ps := ["thing", "fewest", "most"]) fun _ _ _ _ _ _ us hl => match us, hl with | [_, _, _], _ => rfl
  have F5 := fun_mk (st := s_are_lights) l5 c5 k5
  have b5 := F5.binds (ps := ["thing"]) fun _ _ _ _ _ _ us hl => match us, hl with | [_], _ => rfl
  have F6 := fun_mk (st := s_is_bound) l6 c6 k6
  have b6 := F6.binds (ps := ["thing"]) fun _ _ _ _ _ _ us hl => match us, hl with | [_], _ => rfl
  have F7 := fun_mk (st := s_is_life) l7 c7 k7
  have b7 := F7.binds (ps := ["thing"]) fun _ _ _ _ _ _ us hl => match us, hl with | [_], _ => rfl
  have F8 := fun_mk (st := s_is_day) l8 c8 k8
  have b8 := F8.binds (ps := ["thing"]) fun _ _ _ _ _ _ us hl => match us, hl with | [_], _ => rfl
  have F9 := fun_mk (st := s_has_bakery_form) l9 c9 k9
  have b9 := F9.binds (ps := ["thing"]) fun _ _ _ _ _ _ us hl => match us, hl with | [_], _ => rfl
  have F10 := fun_mk (st := s_has_good_form) l10 c10 k10
  have b10 := F10.binds (ps := ["thing", "many"]) fun _ _ _ _ _ _ us hl => match us, hl with | [_, _], _ => rfl
  have F11 := fun_mk (st := s_look_at_goods) l11 c11 k11
  have b11 := F11.binds (ps := ["goods", "many"]) fun _ _ _ _ _ _ us hl => match us, hl with | [_, _], _ => rfl
  have F12 := fun_mk (st := s_look_at_bakery) l12 c12 k12
  have b12 := F12.binds (ps := ["thing"]) fun _ _ _ _ _ _ us hl => match us, hl with | [_], _ => rfl
  have F13 := fun_mk (st := s_is_plain) l13 c13 k13
  have b13 := F13.binds (ps := ["bakery"]) fun _ _ _ _ _ _ us hl => match us, hl with | [_], _ => rfl
  have F14 := fun_mk (st := s_look_at_plain) l14 c14 k14
  have b14 := F14.binds (ps := ["bakery"]) fun _ _ _ _ _ _ us hl => match us, hl with | [_], _ => rfl
  have F15 := fun_mk (st := s_is_place) l15 c15 k15
  have b15 := F15.binds (ps := ["thing", "many"]) fun _ _ _ _ _ _ us hl => match us, hl with | [_, _], _ => rfl
  have F16 := fun_mk (st := s_keeps_of) l16 c16 k16
  have b16 := F16.binds (ps := ["days", "first", "behind"]) fun _ _ _ _ _ _ us hl => match us, hl with | [_, _, _], _ => rfl
  have F17 := fun_mk (st := s_fines_of) l17 c17 k17
  have b17 := F17.binds (ps := ["days", "first", "behind"]) fun _ _ _ _ _ _ us hl => match us, hl with | [_, _, _], _ => rfl
  have F18 := fun_mk (st := s_loaf_price) l18 c18 k18
  have b18 := F18.binds (ps := ["good", "baked", "given"]) fun _ _ _ _ _ _ us hl => match us, hl with | [_, _, _], _ => rfl
  have F19 := fun_mk (st := s_wanted_price) l19 c19 k19
  have b19 := F19.binds (ps := ["good", "baked", "given"]) fun _ _ _ _ _ _ us hl => match us, hl with | [_, _, _], _ => rfl
  have F20 := fun_mk (st := s_wanted_table) l20 c20 k20
  have b20 := F20.binds (ps := ["good"]) fun _ _ _ _ _ _ us hl => match us, hl with | [_], _ => rfl
  have F21 := fun_mk (st := s_least_baked_on) l21 c21 k21
  have b21 := F21.binds (ps := ["row", "light", "prices", "many"]) fun _ _ _ _ _ _ us hl => match us, hl with | [_, _, _, _], _ => rfl
  have F22 := fun_mk (st := s_least_of) l22 c22 k22
  have b22 := F22.binds (ps := ["row", "lights", "table", "many", "ovens"]) fun _ _ _ _ _ _ us hl => match us, hl with | [_, _, _, _, _], _ => rfl
  have F23 := fun_mk (st := s_is_unwanted) l23 c23 k23
  have b23 := F23.binds (ps := ["good", "day"]) fun _ _ _ _ _ _ us hl => match us, hl with | [_, _], _ => rfl
  have F24 := fun_mk (st := s_least_row) l24 c24 k24
  have b24 := F24.binds (ps := ["bakery"]) fun _ _ _ _ _ _ us hl => match us, hl with | [_], _ => rfl
  have F25 := fun_mk (st := s_first_baked_on) l25 c25 k25
  have b25 := F25.binds (ps := ["row", "light", "prices", "many"]) fun _ _ _ _ _ _ us hl => match us, hl with | [_, _, _, _], _ => rfl
  have F26 := fun_mk (st := s_stretch_rows) l26 c26 k26
  have b26 := F26.binds (ps := ["days", "baked", "first", "behind"]) fun _ _ _ _ _ _ us hl => match us, hl with | [_, _, _, _], _ => rfl
  have F27 := fun_mk (st := s_is_plan_row) l27 c27 k27
  have b27 := F27.binds (ps := ["bakery", "thing"]) fun _ _ _ _ _ _ us hl => match us, hl with | [_, _], _ => rfl
  have F28 := fun_mk (st := s_are_rising) l28 c28 k28
  have b28 := F28.binds (ps := ["plan"]) fun _ _ _ _ _ _ us hl => match us, hl with | [_], _ => rfl
  have F29 := fun_mk (st := s_have_prices) l29 c29 k29
  have b29 := F29.binds (ps := ["bakery", "plan"]) fun _ _ _ _ _ _ us hl => match us, hl with | [_, _], _ => rfl
  have F30 := fun_mk (st := s_meets_wants) l30 c30 k30
  have b30 := F30.binds (ps := ["bakery", "plan"]) fun _ _ _ _ _ _ us hl => match us, hl with | [_, _], _ => rfl
  have F31 := fun_mk (st := s_keeps_bound) l31 c31 k31
  have b31 := F31.binds (ps := ["bakery", "plan"]) fun _ _ _ _ _ _ us hl => match us, hl with | [_, _], _ => rfl
  have F32 := fun_mk (st := s_fits) l32 c32 k32
  have b32 := F32.binds (ps := ["bakery", "thing"]) fun _ _ _ _ _ _ us hl => match us, hl with | [_, _], _ => rfl
  have F33 := fun_mk (st := s_lit_days) l33 c33 k33
  have b33 := F33.binds (ps := ["plan"]) fun _ _ _ _ _ _ us hl => match us, hl with | [_], _ => rfl
  have F34 := fun_mk (st := s_cost_of) l34 c34 k34
  have b34 := F34.binds (ps := ["bakery", "plan"]) fun _ _ _ _ _ _ us hl => match us, hl with | [_, _], _ => rfl
  have F35 := fun_mk (st := s_is_dough) l35 c35 k35
  have b35 := F35.binds (ps := ["thing"]) fun _ _ _ _ _ _ us hl => match us, hl with | [_], _ => rfl
  have F36 := fun_mk (st := s_look_at_doughs) l36 c36 k36
  have b36 := F36.binds (ps := ["bakery", "thing"]) fun _ _ _ _ _ _ us hl => match us, hl with | [_, _], _ => rfl
  have F37 := fun_mk (st := s_dough_price) l37 c37 k37
  have b37 := F37.binds (ps := ["doughs", "mixed", "baked"]) fun _ _ _ _ _ _ us hl => match us, hl with | [_, _, _], _ => rfl
  have F38 := fun_mk (st := s_is_dough_row) l38 c38 k38
  have b38 := F38.binds (ps := ["bakery", "thing"]) fun _ _ _ _ _ _ us hl => match us, hl with | [_, _], _ => rfl
  have F39 := fun_mk (st := s_without_doughs) l39 c39 k39
  have b39 := F39.binds (ps := ["plan"]) fun _ _ _ _ _ _ us hl => match us, hl with | [_], _ => rfl
  have F40 := fun_mk (st := s_fits_doughs) l40 c40 k40
  have b40 := F40.binds (ps := ["bakery", "doughs", "thing"]) fun _ _ _ _ _ _ us hl => match us, hl with | [_, _, _], _ => rfl
  have F41 := fun_mk (st := s_dough_cost) l41 c41 k41
  have b41 := F41.binds (ps := ["bakery", "doughs", "plan"]) fun _ _ _ _ _ _ us hl => match us, hl with | [_, _, _], _ => rfl
  have F42 := fun_mk (st := s_dough_table) l42 c42 k42
  have b42 := F42.binds (ps := ["good", "doughs", "mixed"]) fun _ _ _ _ _ _ us hl => match us, hl with | [_, _, _], _ => rfl
  have F43 := fun_mk (st := s_least_mixed) l43 c43 k43
  have b43 := F43.binds (ps := ["rungs", "lights", "table", "unwanted"]) fun _ _ _ _ _ _ us hl => match us, hl with | [_, _, _, _], _ => rfl
  have F44 := fun_mk (st := s_built) l44 c44 k44
  have b44 := F44.binds (ps := ["bakery", "doughs", "tables"]) fun _ _ _ _ _ _ us hl => match us, hl with | [_, _, _], _ => rfl
  have F45 := fun_mk (st := s_last_stretches) l45 c45 k45
  have b45 := F45.binds (ps := ["rungs", "lights", "table", "day", "many"]) fun _ _ _ _ _ _ us hl => match us, hl with | [_, _, _, _, _], _ => rfl
  have F46 := fun_mk (st := s_last_free_stretch) l46 c46 k46
  have b46 := F46.binds (ps := ["ladder", "lights", "tables", "many"]) fun _ _ _ _ _ _ us hl => match us, hl with | [_, _, _, _], _ => rfl
  have F47 := fun_mk (st := s_walked_back) l47 c47 k47
  have b47 := F47.binds (ps := ["bakery", "doughs", "ladder", "tables"]) fun _ _ _ _ _ _ us hl => match us, hl with | [_, _, _, _], _ => rfl
  have F48 := fun_mk (st := s_cheapest_doughs) l48 c48 k48
  have b48 := F48.binds (ps := ["bakery", "doughs"]) fun _ _ _ _ _ _ us hl => match us, hl with | [_, _], _ => rfl
  have F49 := fun_mk (st := s_cell_at) l49 c49 k49
  have b49 := F49.binds (ps := ["_law_script", "_law_k"]) fun _ _ _ _ _ _ us hl => match us, hl with | [_, _], _ => rfl
  have F50 := fun_mk (st := s_numbers) l50 c50 k50
  have b50 := F50.binds (ps := ["_law_cell", "_law_salt", "_law_sizes"]) fun _ _ _ _ _ _ us hl => match us, hl with | [_, _, _], _ => rfl
  have F51 := fun_mk (st := s_day) l51 c51 k51
  have b51 := F51.binds (ps := ["_law_digits", "_law_late"]) fun _ _ _ _ _ _ us hl => match us, hl with | [_, _], _ => rfl
  have F52 := fun_mk (st := s_bakery) l52 c52 k52
  have b52 := F52.binds (ps := ["_law_script", "_law_upto", "_law_salt"]) fun _ _ _ _ _ _ us hl => match us, hl with | [_, _, _], _ => rfl
  have F53 := fun_mk (st := s_doughs) l53 c53 k53
  have b53 := F53.binds (ps := ["_law_script", "_law_many", "_law_salt"]) fun _ _ _ _ _ _ us hl => match us, hl with | [_, _, _], _ => rfl
  have F54 := fun_mk (st := s_later) l54 c54 k54
  have b54 := F54.binds (ps := ["_law_cell"]) fun _ _ _ _ _ _ us hl => match us, hl with | [_], _ => rfl
  have F55 := fun_mk (st := s_least) l55 c55 k55
  have b55 := F55.binds (ps := ["_law_bakery_here", "_law_doughs_here"]) fun _ _ _ _ _ _ us hl => match us, hl with | [_, _], _ => rfl
  have F56 := fun_mk (st := s_dearer) l56 c56 k56
  have b56 := F56.binds (ps := ["_law_bakery_here", "_law_doughs_here"]) fun _ _ _ _ _ _ us hl => match us, hl with | [_, _], _ => rfl
  have F57 := fun_mk (st := s_mixed_alone) l57 c57 k57
  have b57 := F57.binds (ps := ["_law_bakery_here", "_law_doughs_here"]) fun _ _ _ _ _ _ us hl => match us, hl with | [_, _], _ => rfl
  have F58 := fun_mk (st := s_unmixed) l58 c58 k58
  have b58 := F58.binds (ps := ["_law_plan"]) fun _ _ _ _ _ _ us hl => match us, hl with | [_], _ => rfl
  have F59 := fun_mk (st := s_halved) l59 c59 k59
  have b59 := F59.binds (ps := ["_law_bakery_here"]) fun _ _ _ _ _ _ us hl => match us, hl with | [_], _ => rfl
  have F60 := fun_mk (st := s_law) l60 c60 k60
  have b60 := F60.binds (ps := ["_law_script"]) fun _ _ _ _ _ _ us hl => match us, hl with | [_], _ => rfl
  have B : Bi mg := ⟨PySem.W.mg_none_of X G z_len, PySem.W.mg_none_of X G z_max, PySem.W.mg_none_of X G z_min, PySem.W.mg_none_of X G z_range, PySem.W.mg_none_of X G z_isinstance, PySem.W.mg_none_of X G z_int, PySem.W.mg_none_of X G z_bool, PySem.W.mg_none_of X G z_list, PySem.W.mg_none_of X G z_tuple, PySem.W.mg_none_of X G z_all, PySem.W.mg_none_of X G z_sum, PySem.W.mg_none_of X G z_repr, PySem.W.mg_none_of X G z_enumerate⟩
  have M_GREATEST := PySem.W.mg_of X G y_GREATEST
  have M_MOST_DAYS := PySem.W.mg_of X G y_MOST_DAYS
  have M_MOST_GOODS := PySem.W.mg_of X G y_MOST_GOODS
  have M_LONGEST_LIFE := PySem.W.mg_of X G y_LONGEST_LIFE
  have M_MOST_MIXED := PySem.W.mg_of X G y_MOST_MIXED
  refine ⟨PySem.W.fnOf "law" "law" (defArgs s_law) (defBody s_law) (defScope s_law) .none kV60 dc60 pm60 an60 cd60 ct60, fun s v => .of_eq rfl, fun base _ _ => ?_⟩
  have Bz := PySem.W.mg_none_of X G z_zip
  have Bs := PySem.W.mg_none_of X G z_sorted
  have Br := PySem.W.mg_none_of X G z_reversed
  have D1 : Def l.prog w K mg base "is_whole" 1 ["thing"] (spWhole K) := ⟨_, _, PySem.W.mg_of X G a1, k1, b1, ok_is_whole F1 B⟩
  have D2 : Def l.prog w K mg base "is_number" 2 ["thing"] (spNum K) := ⟨_, _, PySem.W.mg_of X G a2, k2, b2, ok_is_number (k := 0) F2 B M_GREATEST D1⟩
  have D3 : Def l.prog w K mg base "is_tuple_of" 1 ["thing", "many"] (spTupleOf K) := ⟨_, _, PySem.W.mg_of X G a3, k3, b3, ok_is_tuple_of F3 B⟩
  have D4 : Def l.prog w K mg base "is_list_of" 1 ["thing", "fewest", "most"] (spListOf K) := ⟨_, _, PySem.W.mg_of X G a4, k4, b4, ok_is_list_of F4 B⟩
  have D5 : Def l.prog w K mg base "are_lights" 3 ["thing"] (spPred K lightsB) := ⟨_, _, PySem.W.mg_of X G a5, k5, b5, ok_are_lights F5 B M_MOST_DAYS D4 D2⟩
  have D6 : Def l.prog w K mg base "is_bound" 3 ["thing"] (spPred K boundB) := ⟨_, _, PySem.W.mg_of X G a6, k6, b6, ok_is_bound F6 D2⟩
  have D7 : Def l.prog w K mg base "is_life" 3 ["thing"] (spPred K lifeB) := ⟨_, _, PySem.W.mg_of X G a7, k7, b7, ok_is_life F7 M_LONGEST_LIFE D1⟩
  have D8 : Def l.prog w K mg base "is_day" 3 ["thing"] (spPred K dayB) := ⟨_, _, PySem.W.mg_of X G a8, k8, b8, ok_is_day F8 B D3 D2⟩
  have D9 : Def l.prog w K mg base "has_bakery_form" 4 ["thing"] (spPred K bakFormB) := ⟨_, _, PySem.W.mg_of X G a9, k9, b9, ok_has_bakery_form F9 D3 D5 D6 D4 M_MOST_GOODS⟩
  have D10 : Def l.prog w K mg base "has_good_form" 4 ["thing", "many"] (spGoodForm K) := ⟨_, _, PySem.W.mg_of X G a10, k10, b10, ok_has_good_form F10 D3 D7 D4⟩
  have D11 : Def l.prog w K mg base "look_at_goods" 5 ["goods", "many"] (spLookGoods K) := ⟨_, _, PySem.W.mg_of X G a11, k11, b11, ok_look_at_goods F11 B D10 D8⟩
  have D12 : Def l.prog w K mg base "look_at_bakery" 6 ["thing"] (spLook K) := ⟨_, _, PySem.W.mg_of X G a12, k12, b12, ok_look_at_bakery F12 B D9 D11⟩
  have D13 : Def l.prog w K mg base "is_plain" 7 ["bakery"] (spPlain K (.bl true)) := ⟨_, _, PySem.W.mg_of X G a13, k13, b13, ok_is_plain F13 B D12⟩
  have D14 : Def l.prog w K mg base "look_at_plain" 8 ["bakery"] (spPlain K .non) := ⟨_, _, PySem.W.mg_of X G a14, k14, b14, ok_look_at_plain F14 D13⟩
  have D15 : Def l.prog w K mg base "is_place" 2 ["thing", "many"] (spPlaceA K) := ⟨_, _, PySem.W.mg_of X G a15, k15, b15, okA_is_place F15 D1⟩
  have D16 : Def l.prog w K mg base "keeps_of" 1 ["days", "first", "behind"] (spKeeps K) := ⟨_, _, PySem.W.mg_of X G a16, k16, b16, ok_keeps_of F16 B⟩
  have D17 : Def l.prog w K mg base "fines_of" 1 ["days", "first", "behind"] (spFines K) := ⟨_, _, PySem.W.mg_of X G a17, k17, b17, ok_fines_of F17 B⟩
  have D18 : Def l.prog w K mg base "loaf_price" 2 ["good", "baked", "given"] (spLoafP K) := ⟨_, _, PySem.W.mg_of X G a18, k18, b18, ok_loaf_price F18 D17 D16⟩
  have D19 : Def l.prog w K mg base "wanted_price" 3 ["good", "baked", "given"] (spWanted K) := ⟨_, _, PySem.W.mg_of X G a19, k19, b19, ok_wanted_price F19 D18⟩
  have D20 : Def l.prog w K mg base "wanted_table" 4 ["good"] (spTable K) := ⟨_, _, PySem.W.mg_of X G a20, k20, b20, ok_wanted_table F20 B D19⟩
  have D21 : Def l.prog w K mg base "least_baked_on" 1 ["row", "light", "prices", "many"] (spLbo K) := ⟨_, _, PySem.W.mg_of X G a21, k21, b21, ok_least_baked_on F21 B Br⟩
  have D22 : Def l.prog w K mg base "least_of" 2 ["row", "lights", "table", "many", "ovens"] (spLeastOf K) := ⟨_, _, PySem.W.mg_of X G a22, k22, b22, ok_least_of F22 B D21⟩
  have D23 : Def l.prog w K mg base "is_unwanted" 1 ["good", "day"] (spUnw K) := ⟨_, _, PySem.W.mg_of X G a23, k23, b23, ok_is_unwanted F23 ⟩
  have D24 : Def l.prog w K mg base "least_row" 9 ["bakery"] (spRow K) := ⟨_, _, PySem.W.mg_of X G a24, k24, b24, ok_least_row F24 B D14 D20 D22 D23⟩
  have D25 : Def l.prog w K mg base "first_baked_on" 1 ["row", "light", "prices", "many"] (spFbo K) := ⟨_, _, PySem.W.mg_of X G a25, k25, b25, ok_first_baked_on F25 B Br⟩
  have D26 : Def l.prog w K mg base "stretch_rows" 1 ["days", "baked", "first", "behind"] (spSrows K) := ⟨_, _, PySem.W.mg_of X G a26, k26, b26, ok_stretch_rows F26 B⟩
  have D27 : Def l.prog w K mg base "is_plan_row" 3 ["bakery", "thing"] (spPRowA K) := ⟨_, _, PySem.W.mg_of X G a27, k27, b27, okA_is_plan_row F27 B D3 D15 D1⟩
  have D28 : Def l.prog w K mg base "are_rising" 1 ["plan"] (spRising K) := ⟨_, _, PySem.W.mg_of X G a28, k28, b28, ok_are_rising F28 B Bz⟩
  have D29 : Def l.prog w K mg base "have_prices" 3 ["bakery", "plan"] (spHaveP K) := ⟨_, _, PySem.W.mg_of X G a29, k29, b29, ok_have_prices F29 B D18⟩
  have D30 : Def l.prog w K mg base "meets_wants" 1 ["bakery", "plan"] (spMeets K) := ⟨_, _, PySem.W.mg_of X G a30, k30, b30, ok_meets_wants F30 B⟩
  have D31 : Def l.prog w K mg base "keeps_bound" 1 ["bakery", "plan"] (spKeepsB K) := ⟨_, _, PySem.W.mg_of X G a31, k31, b31, ok_keeps_bound F31 B⟩
  have D32 : Def l.prog w K mg base "fits" 7 ["bakery", "thing"] (spFitsX K) := ⟨_, _, PySem.W.mg_of X G a32, k32, b32, okX_fits F32 B D12 D27 D28 D29 D30 D31⟩
  have D33 : Def l.prog w K mg base "lit_days" 1 ["plan"] (spLitD K) := ⟨_, _, PySem.W.mg_of X G a33, k33, b33, ok_lit_days F33 Bs⟩
  have D34 : Def l.prog w K mg base "cost_of" 7 ["bakery", "plan"] (spCostOf K) := ⟨_, _, PySem.W.mg_of X G a34, k34, b34, ok_cost_of F34 B D12 D33 D18⟩
  have D35 : Def l.prog w K mg base "is_dough" 3 ["thing"] (spPred K dghB) := ⟨_, _, PySem.W.mg_of X G a35, k35, b35, ok_is_dough F35 B D3 D2⟩
  have D36 : Def l.prog w K mg base "look_at_doughs" 9 ["bakery", "thing"] (spLookD K) := ⟨_, _, PySem.W.mg_of X G a36, k36, b36, ok_look_at_doughs F36 B D14 D4 D35⟩
  have D37 : Def l.prog w K mg base "dough_price" 1 ["doughs", "mixed", "baked"] (spDghP K) := ⟨_, _, PySem.W.mg_of X G a37, k37, b37, ok_dough_price F37 B⟩
  have D38 : Def l.prog w K mg base "is_dough_row" 3 ["bakery", "thing"] (spDRow K) := ⟨_, _, PySem.W.mg_of X G a38, k38, b38, ok_is_dough_row F38 B D3 D15 D1⟩
  have D39 : Def l.prog w K mg base "without_doughs" 1 ["plan"] (spWod K) := ⟨_, _, PySem.W.mg_of X G a39, k39, b39, ok_without_doughs F39 ⟩
  have D40 : Def l.prog w K mg base "fits_doughs" 10 ["bakery", "doughs", "thing"] (spFitD K) := ⟨_, _, PySem.W.mg_of X G a40, k40, b40, ok_fits_doughs F40 B D36 D38 D39 D28 D29 D30⟩
  have D41 : Def l.prog w K mg base "dough_cost" 10 ["bakery", "doughs", "plan"] (spDcost K) := ⟨_, _, PySem.W.mg_of X G a41, k41, b41, ok_dough_cost F41 B Bs D36 D37 D18⟩
  have D42 : Def l.prog w K mg base "dough_table" 5 ["good", "doughs", "mixed"] (spDTab K) := ⟨_, _, PySem.W.mg_of X G a42, k42, b42, ok_dough_table F42 B Bz D20 D37⟩
  have D43 : Def l.prog w K mg base "least_mixed" 2 ["rungs", "lights", "table", "unwanted"] (spLeastM K) := ⟨_, _, PySem.W.mg_of X G a43, k43, b43, ok_least_mixed F43 B Bz D21⟩
  have D44 : Def l.prog w K mg base "built" 3 ["bakery", "doughs", "tables"] (spBuilt K) := ⟨_, _, PySem.W.mg_of X G a44, k44, b44, ok_built F44 B Bz D23 D43⟩
  have D45 : Def l.prog w K mg base "last_stretches" 2 ["rungs", "lights", "table", "day", "many"] (spLastS K) := ⟨_, _, PySem.W.mg_of X G a45, k45, b45, ok_last_stretches F45 B Bz D25⟩
  have D46 : Def l.prog w K mg base "last_free_stretch" 3 ["ladder", "lights", "tables", "many"] (spLastF K) := ⟨_, _, PySem.W.mg_of X G a46, k46, b46, ok_last_free_stretch F46 B D45⟩
  have D47 : Def l.prog w K mg base "walked_back" 4 ["bakery", "doughs", "ladder", "tables"] (spWalked K) := ⟨_, _, PySem.W.mg_of X G a47, k47, b47, ok_walked_back F47 B D23 D45 D46⟩
  have D48 : Def l.prog w K mg base "cheapest_doughs" 10 ["bakery", "doughs"] (spCheapD K) := ⟨_, _, PySem.W.mg_of X G a48, k48, b48, ok_cheapest_doughs F48 B Bs M_MOST_MIXED D36 D42 D44 D47 D26⟩
  have D49 : Def l.prog w K mg base "_law_cell_at" 1 ["_law_script", "_law_k"] (spCellAt K) := ⟨_, _, PySem.W.mg_of X G a49, k49, b49, ok_cell_at F49 B⟩
  have D50 : Def l.prog w K mg base "_law_numbers" 1 ["_law_cell", "_law_salt", "_law_sizes"] (spNumbers K) := ⟨_, _, PySem.W.mg_of X G a50, k50, b50, ok_numbers F50 B⟩
  have D51 : Def l.prog w K mg base "_law_day" 1 ["_law_digits", "_law_late"] (spDay K) := ⟨_, _, PySem.W.mg_of X G a51, k51, b51, ok_day F51 B⟩
  have D52 : Def l.prog w K mg base "_law_bakery" 2 ["_law_script", "_law_upto", "_law_salt"] (spBakery K) := ⟨_, _, PySem.W.mg_of X G a52, k52, b52, ok_bakery F52 B D50 D49 D51⟩
  have D54 : Def l.prog w K mg base "_law_later" 1 ["_law_cell"] (spLater K) := ⟨_, _, PySem.W.mg_of X G a54, k54, b54, ok_later F54 B⟩
  have D53 : Def l.prog w K mg base "_law_doughs" 2 ["_law_script", "_law_many", "_law_salt"] (spDghs K) := ⟨_, _, PySem.W.mg_of X G a53, k53, b53, ok_doughs F53 B D50 D49 D54⟩
  have D55 : Def l.prog w K mg base "_law_least" 11 ["_law_bakery_here", "_law_doughs_here"] (spLeastD K) := ⟨_, _, PySem.W.mg_of X G a55, k55, b55, ok_least F55 B D48 D40 D41⟩
  have D56 : Def l.prog w K mg base "_law_dearer" 1 ["_law_bakery_here", "_law_doughs_here"] (spDear K) := ⟨_, _, PySem.W.mg_of X G a56, k56, b56, ok_dearer F56 B Bz⟩
  have D57 : Def l.prog w K mg base "_law_mixed_alone" 1 ["_law_bakery_here", "_law_doughs_here"] (spAlone K) := ⟨_, _, PySem.W.mg_of X G a57, k57, b57, ok_mixed_alone F57 B Bz⟩
  have D58 : Def l.prog w K mg base "_law_unmixed" 1 ["_law_plan"] (spUnm K) := ⟨_, _, PySem.W.mg_of X G a58, k58, b58, ok_unmixed F58 B Bs⟩
  have D59 : Def l.prog w K mg base "_law_halved" 1 ["_law_bakery_here"] (spHalf K) := ⟨_, _, PySem.W.mg_of X G a59, k59, b59, ok_halved F59 ⟩
  exact ok_law F60 B D52 D59 D53 D55 D24 D56 D57 D48 D58 D32 D34
end Bk
open PySem PySem.W PyProof.Rows
set_option maxHeartbeats 0 in
theorem PySem.Challenge.cw_bakeahead_k87_whole_doughs_as_plain_ones_holds : PySem.Challenge.rw_bakeahead_k87_whole_doughs_as_plain_ones.Holds := by
  w_on; o_law; k_head; (case hw => w_witness2)
  k_fill
  refine L2.walk_of (l := PySem.Challenge.rw_bakeahead_k87_whole_doughs_as_plain_ones) (n := 63) (k := 12) (x := "_law_script") (CX := fun _ => L2.CX0) (sp := fun w => Bk.spLaw _) rfl (by decide) rfl ⟨rfl, by decide, by decide⟩ (fun w h Y => PySem.W.kIn_of Y) ?F (fun _ _ a ns hl _ hS => ⟨a, ns, rfl, hS, hl, fun _ => rfl⟩) (fun _ _ _ _ _ h => h)
  case F =>
    intro w mg fa h KX G hmg
    refine' Bk.all_mk KX G hmg ?a1 ?l1 ?c1 ?k1 ?a2 ?l2 ?c2 ?k2 ?a3 ?l3 ?c3 ?k3 ?a4 ?l4 ?c4 ?k4 ?a5 ?l5 ?c5 ?k5 ?a6 ?l6 ?c6 ?k6 ?a7 ?l7 ?c7 ?k7 ?a8 ?l8 ?c8 ?k8 ?a9 ?l9 ?c9 ?k9 ?a10 ?l10 ?c10 ?k10 ?a11 ?l11 ?c11 ?k11 ?a12 ?l12 ?c12 ?k12 ?a13 ?l13 ?c13 ?k13 ?a14 ?l14 ?c14 ?k14 ?a15 ?l15 ?c15 ?k15 ?a16 ?l16 ?c16 ?k16 ?a17 ?l17 ?c17 ?k17 ?a18 ?l18 ?c18 ?k18 ?a19 ?l19 ?c19 ?k19 ?a20 ?l20 ?c20 ?k20 ?a21 ?l21 ?c21 ?k21 ?a22 ?l22 ?c22 ?k22 ?a23 ?l23 ?c23 ?k23 ?a24 ?l24 ?c24 ?k24 ?a25 ?l25 ?c25 ?k25 ?a26 ?l26 ?c26 ?k26 ?a27 ?l27 ?c27 ?k27 ?a28 ?l28 ?c28 ?k28 ?a29 ?l29 ?c29 ?k29 ?a30 ?l30 ?c30 ?k30 ?a31 ?l31 ?c31 ?k31 ?a32 ?l32 ?c32 ?k32 ?a33 ?l33 ?c33 ?k33 ?a34 ?l34 ?c34 ?k34 ?a35 ?l35 ?c35 ?k35 ?a36 ?l36 ?c36 ?k36 ?a37 ?l37 ?c37 ?k37 ?a38 ?l38 ?c38 ?k38 ?a39 ?l39 ?c39 ?k39 ?a40 ?l40 ?c40 ?k40 ?a41 ?l41 ?c41 ?k41 ?a42 ?l42 ?c42 ?k42 ?a43 ?l43 ?c43 ?k43 ?a44 ?l44 ?c44 ?k44 ?a45 ?l45 ?c45 ?k45 ?a46 ?l46 ?c46 ?k46 ?a47 ?l47 ?c47 ?k47 ?a48 ?l48 ?c48 ?k48 ?a49 ?l49 ?c49 ?k49 ?a50 ?l50 ?c50 ?k50 ?a51 ?l51 ?c51 ?k51 ?a52 ?l52 ?c52 ?k52 ?a53 ?l53 ?c53 ?k53 ?a54 ?l54 ?c54 ?k54 ?a55 ?l55 ?c55 ?k55 ?a56 ?l56 ?c56 ?k56 ?a57 ?l57 ?c57 ?k57 ?a58 ?l58 ?c58 ?k58 ?a59 ?l59 ?c59 ?k59 ?a60 ?l60 ?c60 ?k60 ?z_len ?z_max ?z_min ?z_range ?z_isinstance ?z_int ?z_bool ?z_list ?z_tuple ?z_all ?z_sum ?z_repr ?z_enumerate ?z_reversed ?z_sorted ?z_zip ?y_GREATEST ?y_MOST_DAYS ?y_MOST_GOODS ?y_LONGEST_LIFE ?y_MOST_MIXED
    (case a1 => k_is)
    (case l1 => k_is)
    (case c1 => k_is)
    (case k1 => k_is)
    (case a2 => k_is)
    (case l2 => k_is)
    (case c2 => k_is)
    (case k2 => k_is)
    (case a3 => k_is)
    (case l3 => k_is)
    (case c3 => k_is)
    (case k3 => k_is)
    (case a4 => k_is)
    (case l4 => k_is)
    (case c4 => k_is)
    (case k4 => k_is)
    (case a5 => k_is)
    (case l5 => k_is)
    (case c5 => k_is)
    (case k5 => k_is)
    (case a6 => k_is)
    (case l6 => k_is)
    (case c6 => k_is)
    (case k6 => k_is)
    (case a7 => k_is)
    (case l7 => k_is)
    (case c7 => k_is)
    (case k7 => k_is)
    (case a8 => k_is)
    (case l8 => k_is)
    (case c8 => k_is)
    (case k8 => k_is)
    (case a9 => k_is)
    (case l9 => k_is)
    (case c9 => k_is)
    (case k9 => k_is)
    (case a10 => k_is)
    (case l10 => k_is)
    (case c10 => k_is)
    (case k10 => k_is)
    (case a11 => k_is)
    (case l11 => k_is)
    (case c11 => k_is)
    (case k11 => k_is)
    (case a12 => k_is)
    (case l12 => k_is)
    (case c12 => k_is)
    (case k12 => k_is)
    (case a13 => k_is)
    (case l13 => k_is)
    (case c13 => k_is)
    (case k13 => k_is)
    (case a14 => k_is)
    (case l14 => k_is)
    (case c14 => k_is)
    (case k14 => k_is)
    (case a15 => k_is)
    (case l15 => k_is)
    (case c15 => k_is)
    (case k15 => k_is)
    (case a16 => k_is)
    (case l16 => k_is)
    (case c16 => k_is)
    (case k16 => k_is)
    (case a17 => k_is)
    (case l17 => k_is)
    (case c17 => k_is)
    (case k17 => k_is)
    (case a18 => k_is)
    (case l18 => k_is)
    (case c18 => k_is)
    (case k18 => k_is)
    (case a19 => k_is)
    (case l19 => k_is)
    (case c19 => k_is)
    (case k19 => k_is)
    (case a20 => k_is)
    (case l20 => k_is)
    (case c20 => k_is)
    (case k20 => k_is)
    (case a21 => k_is)
    (case l21 => k_is)
    (case c21 => k_is)
    (case k21 => k_is)
    (case a22 => k_is)
    (case l22 => k_is)
    (case c22 => k_is)
    (case k22 => k_is)
    (case a23 => k_is)
    (case l23 => k_is)
    (case c23 => k_is)
    (case k23 => k_is)
    (case a24 => k_is)
    (case l24 => k_is)
    (case c24 => k_is)
    (case k24 => k_is)
    (case a25 => k_is)
    (case l25 => k_is)
    (case c25 => k_is)
    (case k25 => k_is)
    (case a26 => k_is)
    (case l26 => k_is)
    (case c26 => k_is)
    (case k26 => k_is)
    (case a27 => k_is)
    (case l27 => k_is)
    (case c27 => k_is)
    (case k27 => k_is)
    (case a28 => k_is)
    (case l28 => k_is)
    (case c28 => k_is)
    (case k28 => k_is)
    (case a29 => k_is)
    (case l29 => k_is)
    (case c29 => k_is)
    (case k29 => k_is)
    (case a30 => k_is)
    (case l30 => k_is)
    (case c30 => k_is)
    (case k30 => k_is)
    (case a31 => k_is)
    (case l31 => k_is)
    (case c31 => k_is)
    (case k31 => k_is)
    (case a32 => k_is)
    (case l32 => k_is)
    (case c32 => k_is)
    (case k32 => k_is)
    (case a33 => k_is)
    (case l33 => k_is)
    (case c33 => k_is)
    (case k33 => k_is)
    (case a34 => k_is)
    (case l34 => k_is)
    (case c34 => k_is)
    (case k34 => k_is)
    (case a35 => k_is)
    (case l35 => k_is)
    (case c35 => k_is)
    (case k35 => k_is)
    (case a36 => k_is)
    (case l36 => k_is)
    (case c36 => k_is)
    (case k36 => k_is)
    (case a37 => k_is)
    (case l37 => k_is)
    (case c37 => k_is)
    (case k37 => k_is)
    (case a38 => k_is)
    (case l38 => k_is)
    (case c38 => k_is)
    (case k38 => k_is)
    (case a39 => k_is)
    (case l39 => k_is)
    (case c39 => k_is)
    (case k39 => k_is)
    (case a40 => k_is)
    (case l40 => k_is)
    (case c40 => k_is)
    (case k40 => k_is)
    (case a41 => k_is)
    (case l41 => k_is)
    (case c41 => k_is)
    (case k41 => k_is)
    (case a42 => k_is)
    (case l42 => k_is)
    (case c42 => k_is)
    (case k42 => k_is)
    (case a43 => k_is)
    (case l43 => k_is)
    (case c43 => k_is)
    (case k43 => k_is)
    (case a44 => k_is)
    (case l44 => k_is)
    (case c44 => k_is)
    (case k44 => k_is)
    (case a45 => k_is)
    (case l45 => k_is)
    (case c45 => k_is)
    (case k45 => k_is)
    (case a46 => k_is)
    (case l46 => k_is)
    (case c46 => k_is)
    (case k46 => k_is)
    (case a47 => k_is)
    (case l47 => k_is)
    (case c47 => k_is)
    (case k47 => k_is)
    (case a48 => k_is)
    (case l48 => k_is)
    (case c48 => k_is)
    (case k48 => k_is)
    (case a49 => k_is)
    (case l49 => k_is)
    (case c49 => k_is)
    (case k49 => k_is)
    (case a50 => k_is)
    (case l50 => k_is)
    (case c50 => k_is)
    (case k50 => k_is)
    (case a51 => k_is)
    (case l51 => k_is)
    (case c51 => k_is)
    (case k51 => k_is)
    (case a52 => k_is)
    (case l52 => k_is)
    (case c52 => k_is)
    (case k52 => k_is)
    (case a53 => k_is)
    (case l53 => k_is)
    (case c53 => k_is)
    (case k53 => k_is)
    (case a54 => k_is)
    (case l54 => k_is)
    (case c54 => k_is)
    (case k54 => k_is)
    (case a55 => k_is)
    (case l55 => k_is)
    (case c55 => k_is)
    (case k55 => k_is)
    (case a56 => k_is)
    (case l56 => k_is)
    (case c56 => k_is)
    (case k56 => k_is)
    (case a57 => k_is)
    (case l57 => k_is)
    (case c57 => k_is)
    (case k57 => k_is)
    (case a58 => k_is)
    (case l58 => k_is)
    (case c58 => k_is)
    (case k58 => k_is)
    (case a59 => k_is)
    (case l59 => k_is)
    (case c59 => k_is)
    (case k59 => k_is)
    (case a60 => k_is)
    (case l60 => k_is)
    (case c60 => k_is)
    (case k60 => k_is)
    (case z_len => k_is)
    (case z_max => k_is)
    (case z_min => k_is)
    (case z_range => k_is)
    (case z_isinstance => k_is)
    (case z_int => k_is)
    (case z_bool => k_is)
    (case z_list => k_is)
    (case z_tuple => k_is)
    (case z_all => k_is)
    (case z_sum => k_is)
    (case z_repr => k_is)
    (case z_enumerate => k_is)
    (case z_reversed => k_is)
    (case z_sorted => k_is)
    (case z_zip => k_is)
    (case y_GREATEST => k_is)
    (case y_MOST_DAYS => k_is)
    (case y_MOST_GOODS => k_is)
    (case y_LONGEST_LIFE => k_is)
    (case y_MOST_MIXED => k_is)



