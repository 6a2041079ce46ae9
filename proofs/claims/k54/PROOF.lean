import PyProof.Rows.All
import Wide.All
import OpenK.AllK
import Wide.FinOn
import HandS.Base
import HandS.Call
import HandS.List
import HandS.Comp
import HandS.Ends
import HandS.Dict
import HandS.Iter
import HandS.Text
import HandS.Words
import HandS.WordsList
import HandS.Wide
import HandS.IsInst
import HandS.Walk
import HandS.Style
import HandS.NoneIn
import HandS.EndBits
import PyProof.ReprRoads
import PyProof.ReprLen
import HandS.Sort
import HandS.Conv
import HandS.RevRange
import HandS.WideBits
import HandS.Exc
import HandS.ExcInit
import HandS.Nested
import KE.KExcSuper
import KE.KSuper
import HandS.More
import HandS.Small
import HandS.ForExc
import HandS.ExcOwn
import HandS.TryOnly
import HandS.FStr
import HandS.WordsExc
import PyProof.FString2
import PyProof.Rows.SeqMore
import PyProof.NeKinds
import HandS.TupAny
import HandS.Zip
import HandS.SortKw
import HandS.SortInts
import PyProof.MinMaxWalk
import PyProof.WalkInts
import HandS.SetFor
import HandS.Strs
import HandS.TupSets
import KE.SortData
import HandS.TupLe
import HandS.ExcIs
import KE.KExcIs
import HandS.ExcField
import HandS.ExcValue
import HandS.RaiseMore
import KE.GoesSet
import KE.GoesMore
import PyProof.StrLawsRepr
import PyProof.EqAt
import PyProof.Rows.Chain
import HandS.Deep
import KE.KDictZip
import HandS.Codes
import HandS.Defaults
import PySem.Challenge.RW_bakeahead_k54_trees_looked_at
set_option Elab.async false
set_option linter.all false
set_option maxRecDepth 100000
set_option maxHeartbeats 4000000
namespace Bk
open PySem PySem.Spec PyProof.Rows L2
/-! ### a def of the text with its promise -/
structure Def (P : Program) (w : World) (K : PySem.W.Frag) (mg : Str → Option Value) (base : Heap) (x : Str) (k : Nat) (ps : List Str) (sp : Sp) : Prop where
  ex : ∃ (f : Addr) (fd : FuncData), mg x = some (.ref f) ∧ PySem.W.keepIn K (.ref f) = true ∧ Binds K fd ps [] ∧ FnOk P w K mg base CX0 k f fd ps sp
theorem pe_callD {X : Cx} {x : Str} {k j : Nat} {ps : List Str} {sp : Sp} {e : Expr} {es : List Expr} {t : TA} {p pos : Pos} (D : Def X.prog X.w X.K X.mg X.base x k ps sp) (hr : Room j X.A) (hg : Gl X x) (ha : PA X (e :: es) t)
    (hkj : k ≤ j := by omega) (hdb : (x == ("__debug__" : Str)) = false := by decide) (he : starEach (e :: es) X.env = (false, eval e X.env) :: starEach es X.env := by rfl) (hpl : (backTo pos (starEach es X.env)).any (·.1) = false := by rfl) :
    PE X (.Call (.Name x p) (e :: es) [] pos) (tCall sp [] E0 t) := by
  obtain ⟨f, fd, hm, hk, hb, F⟩ := D.ex
  exact pe_call F (hr.mono hkj) hg hm hk hb .nil pass0 ha hdb he hpl
theorem same_upd {H : Hp} {p : Addr} {o : HO} (h : H p = none) : Same H (upd H p o) := fun b x e => by
  rw [upd_ne (ne_of_none e h)]
  exact e
/-- what H does not know may change -/
theorem same_mut {H H' : Hp} {p : Addr} {o : HO} (e : Same H H') (h : H p = none) : Same H (upd H' p o) := fun b x q => by
  rw [upd_ne (ne_of_none q h)]
  exact e b x q
theorem _root_.L2.SqL.upd_ {K : PySem.W.Frag} {H : Hp} {a p : Addr} {o : HO} {xs : List V} (h : SqL K H a xs) (hp : H p = none) : SqL K (upd H p o) a xs := (same_upd hp).seq h
theorem Same.tup {K : PySem.W.Frag} {H H' : Hp} {a : Addr} {xs : List V} (e : Same H H') (h : SqT K H a xs) : SqT K H' a xs := by
  rcases h with (h | ⟨o, h⟩) | h
  · exact .inl (.inl (e _ _ h))
  · exact .inl (.inr ⟨o, e _ _ h⟩)
  · exact .inr h
/-- the written part of a def's place -/
theorem cxK {CX : CXT} {P : Program} {w : World} {K : PySem.W.Frag} {mg : Str → Option Value} {base : Heap} {N : List Str} {qual : Str} {scope : Scope} {f : Addr} {cd : Value} {A : Around} {outer : List Env} {s : Shared} {H : Hp} {E : XK} :
    (cxOf CX P w K mg base N qual scope f cd A outer s H E).K = K := rfl
theorem rI_ii {C : Int → Int → Prop} {g : Int → Int → V} {i j : Int} {H : Hp} {Q : VK} : rI C g (.int i) (.int j) H Q = (C i j ∧ Q (g i j) H) := propext ⟨fun ⟨a, b, e1, e2, h⟩ => by cases e1; cases e2; exact h, fun h => ⟨i, j, rfl, rfl, h⟩⟩
theorem rI0_ii {g : Int → Int → V} {i j : Int} {H : Hp} {Q : VK} : rI0 g (.int i) (.int j) H Q = Q (g i j) H := propext ⟨fun ⟨a, b, e1, e2, h⟩ => by cases e1; cases e2; exact h, fun h => ⟨i, j, rfl, rfl, h⟩⟩
theorem rU_i {g : Int → V} {i : Int} {H : Hp} {Q : VK} : rU g (.int i) H Q = Q (g i) H := propext ⟨fun ⟨a, e1, h⟩ => by cases e1; exact h, fun h => ⟨i, rfl, h⟩⟩
theorem rIxL_r {K : PySem.W.Frag} {p : Addr} {i : Int} {H : Hp} {Q : VK} : rIxL K (.ref p) (.int i) H Q = ∃ xs v, SqL K H p xs ∧ atI xs i = some v ∧ Q v H := propext ⟨fun ⟨a, xs, b, v, e1, e2, h⟩ => by cases e1; cases e2; exact ⟨xs, v, h⟩, fun ⟨xs, v, h⟩ => ⟨p, xs, i, v, rfl, rfl, h⟩⟩
theorem rIxT_r {K : PySem.W.Frag} {p : Addr} {i : Int} {H : Hp} {Q : VK} : rIxT K (.ref p) (.int i) H Q = ∃ xs v, SqT K H p xs ∧ atI xs i = some v ∧ Q v H := propext ⟨fun ⟨a, xs, b, v, e1, e2, h⟩ => by cases e1; cases e2; exact ⟨xs, v, h⟩, fun ⟨xs, v, h⟩ => ⟨p, xs, i, v, rfl, rfl, h⟩⟩
theorem rAppend_r {l : Addr} {y : V} {H : Hp} {Q : VK} : rAppend (.ref l) [y] H Q = ∃ xs, H l = some (.lst xs) ∧ xs.length < sizeLine ∧ Q .non (upd H l (.lst (xs ++ [y]))) :=
  propext ⟨fun ⟨a, xs, b, e1, e2, h⟩ => by cases e1; cases e2; exact ⟨xs, h⟩, fun ⟨xs, h⟩ => ⟨l, xs, y, rfl, rfl, h⟩⟩
theorem tyL {K : PySem.W.Frag} {l : Addr} {H : Hp} {xs : List V} (h : SqL K H l xs) : tyV K "list" (.ref l) H := .inl ⟨rfl, xs, h⟩
theorem atI_of {α : Type} {xs : List α} {i : Int} {v : α} (h0 : 0 ≤ i) (h : xs[i.toNat]? = some v) : atI xs i = some v := by
  have e : i = ((i.toNat : Nat) : Int) := by omega
  rw [e]
  exact atI_nat h
theorem atI_map {α : Type} {f : α → V} {xs : List α} {i : Int} {v : α} (h0 : 0 ≤ i) (h : xs[i.toNat]? = some v) : atI (xs.map f) i = some (f v) := atI_of h0 (by rw [List.getElem?_map, h]; rfl)
theorem sz100 {n : Nat} (h : n ≤ 100000) : n ≤ sizeLine := Nat.le_trans h (by decide)
theorem sz100l {n : Nat} (h : n < 100000) : n < sizeLine := Nat.lt_of_lt_of_le h (by decide)
/-! ### calls of built-ins by named readings -/
def rMx : List V → Hp → VK → Prop := fun xs H Q => ∃ i j, xs = [.int i, .int j] ∧ Q (.int (if j > i then j else i)) H
def rMn : List V → Hp → VK → Prop := fun xs H Q => ∃ i j, xs = [.int i, .int j] ∧ Q (.int (if j < i then j else i)) H
theorem call_mx {X : Cx} (hc : X.calm = true) : CallR X (.builtin "max") rMx := call_max2 hc
theorem call_mn {X : Cx} (hc : X.calm = true) : CallR X (.builtin "min") rMn := call_min2 hc
theorem rMx_ii {i j : Int} {H : Hp} {Q : VK} : rMx [.int i, .int j] H Q = Q (.int (if j > i then j else i)) H := propext ⟨fun ⟨a, b, e, h⟩ => by cases e; exact h, fun h => ⟨i, j, rfl, h⟩⟩
theorem rMn_ii {i j : Int} {H : Hp} {Q : VK} : rMn [.int i, .int j] H Q = Q (.int (if j < i then j else i)) H := propext ⟨fun ⟨a, b, e, h⟩ => by cases e; exact h, fun h => ⟨i, j, rfl, h⟩⟩
/-- len of a list, of a tuple -/
def rLnL (K : PySem.W.Frag) : List V → Hp → VK → Prop := fun xs H Q => ∃ p ys, xs = [.ref p] ∧ SqL K H p ys ∧ Q (.int ys.length) H
def rLnT (K : PySem.W.Frag) : List V → Hp → VK → Prop := fun xs H Q => ∃ p ys, xs = [.ref p] ∧ SqT K H p ys ∧ Q (.int ys.length) H
theorem call_lnL {X : Cx} : CallR X (.builtin "len") (rLnL X.K) := fun pins s σ H xs us Q I r ⟨p, ys, e, h, q⟩ => call_len_seq pins s σ H xs us Q I r ⟨p, ys, e, .inl h, q⟩
theorem call_lnT {X : Cx} : CallR X (.builtin "len") (rLnT X.K) := fun pins s σ H xs us Q I r ⟨p, ys, e, h, q⟩ => call_len_seq pins s σ H xs us Q I r ⟨p, ys, e, .inr h, q⟩
theorem rLnL_r {K : PySem.W.Frag} {p : Addr} {H : Hp} {Q : VK} : rLnL K [.ref p] H Q = ∃ ys, SqL K H p ys ∧ Q (.int ys.length) H := propext ⟨fun ⟨a, ys, e, h⟩ => by cases e; exact ⟨ys, h⟩, fun ⟨ys, h⟩ => ⟨p, ys, rfl, h⟩⟩
theorem rLnT_r {K : PySem.W.Frag} {p : Addr} {H : Hp} {Q : VK} : rLnT K [.ref p] H Q = ∃ ys, SqT K H p ys ∧ Q (.int ys.length) H := propext ⟨fun ⟨a, ys, e, h⟩ => by cases e; exact ⟨ys, h⟩, fun ⟨ys, h⟩ => ⟨p, ys, rfl, h⟩⟩
/-! ### any thing, as data -/
mutual
inductive Th (K : PySem.W.Frag) (H : Hp) : V → PyData → Prop
  | non : Th K H .non .none
  | bl (b : Bool) : Th K H (.bl b) (.bool b)
  | int (i : Int) : Th K H (.int i) (.int i)
  | str (x : Str) : Th K H (.str x) (.str x)
  | lst {a : Addr} {xs : List V} {ds : List PyData} : SqL K H a xs → ThAll K H xs ds → Th K H (.ref a) (.list ds)
  | tup {a : Addr} {xs : List V} {ds : List PyData} : SqT K H a xs → ThAll K H xs ds → Th K H (.ref a) (.tuple ds)
  | dic {a : Addr} : H a = some (.dK []) → Th K H (.ref a) (.dict [])
inductive ThAll (K : PySem.W.Frag) (H : Hp) : List V → List PyData → Prop
  | nil : ThAll K H [] []
  | cons {v : V} {vs : List V} {d : PyData} {ds : List PyData} : Th K H v d → ThAll K H vs ds → ThAll K H (v :: vs) (d :: ds)
end

mutual
theorem Th.same {K : PySem.W.Frag} {H H' : Hp} (e : Same H H') : ∀ {v : V} {d : PyData}, Th K H v d → Th K H' v d
  | _, _, .non => .non
  | _, _, .bl b => .bl b
  | _, _, .int i => .int i
  | _, _, .str x => .str x
  | _, _, .lst h t => .lst (e.seq h) (ThAll.same e t)
  | _, _, .tup h t => .tup (Same.tup e h) (ThAll.same e t)
  | _, _, .dic h => .dic (e _ _ h)
theorem ThAll.same {K : PySem.W.Frag} {H H' : Hp} (e : Same H H') : ∀ {vs : List V} {ds : List PyData}, ThAll K H vs ds → ThAll K H' vs ds
  | _, _, .nil => .nil
  | _, _, .cons h t => .cons (Th.same e h) (ThAll.same e t)
end
theorem ThAll.length {K : PySem.W.Frag} {H : Hp} : ∀ {vs : List V} {ds : List PyData}, ThAll K H vs ds → vs.length = ds.length
  | _, _, .nil => rfl
  | _, _, .cons _ t => by rw [List.length_cons, List.length_cons, ThAll.length t]
theorem ThAll.get {K : PySem.W.Frag} {H : Hp} : ∀ {vs : List V} {ds : List PyData} {i : Nat} {v : V}, ThAll K H vs ds → vs[i]? = some v → ∃ d, ds[i]? = some d ∧ Th K H v d
  | _, _, _, _, .nil, e => by simp at e
  | _, _, 0, _, .cons h _, e => by
    rw [List.getElem?_cons_zero] at e
    cases e
    exact ⟨_, List.getElem?_cons_zero .., h⟩
  | _, _, i + 1, _, .cons _ t, e => by
    rw [List.getElem?_cons_succ] at e
    obtain ⟨d, h1, h2⟩ := ThAll.get t e
    exact ⟨d, by rw [List.getElem?_cons_succ]; exact h1, h2⟩
theorem ThAll.get' {K : PySem.W.Frag} {H : Hp} {vs : List V} {ds : List PyData} {i : Nat} {d : PyData} (t : ThAll K H vs ds) (e : ds[i]? = some d) : ∃ v, vs[i]? = some v ∧ Th K H v d := by
  have hi : i < vs.length := by
    rw [t.length]
    exact (List.getElem?_eq_some_iff.mp e).1
  obtain ⟨d', h1, h2⟩ := t.get (List.getElem?_eq_getElem hi)
  have e2 : d' = d := Option.some.inj (h1.symm.trans e)
  subst e2
  exact ⟨_, List.getElem?_eq_getElem hi, h2⟩
theorem ThAll.ints {K : PySem.W.Frag} {H : Hp} : ∀ ns : List Int, ThAll K H (ns.map V.int) (ns.map PyData.int)
  | [] => .nil
  | n :: r => .cons (.int n) (ThAll.ints r)
/-- the built-in classes that are asked for -/
inductive Cl | int | bool | list | tuple | str | dict
def Cl.name : Cl → String
  | .int => "int" | .bool => "bool" | .list => "list" | .tuple => "tuple" | .str => "str" | .dict => "dict"
def kindD : PyData → String
  | .none => "NoneType" | .bool _ => "bool" | .int _ => "int" | .str _ => "str" | .list _ => "list" | .tuple _ => "tuple" | .dict _ => "dict"
def isD : Cl → PyData → Bool
  | .int, .int _ => true
  | .int, .bool _ => true
  | .bool, .bool _ => true
  | .list, .list _ => true
  | .tuple, .tuple _ => true
  | .str, .str _ => true
  | .dict, .dict _ => true
  | _, _ => false
def isN (c : Cl) (n : String) : Bool := n == c.name || (n == "bool" && c.name == "int")
theorem isN_kit : ∀ (c : Cl), ∀ n ∈ ["NoneType", "bool", "int", "str", "list", "tuple", "dict"], kitB n c.name = some (isN c n) := by
  intro c
  cases c <;> decide +kernel
theorem kindD_mem (d : PyData) : kindD d ∈ ["NoneType", "bool", "int", "str", "list", "tuple", "dict"] := by cases d <;> simp [kindD]
theorem isN_tab : ∀ c : Cl, isN c "NoneType" = isD c .none ∧ isN c "bool" = isD c (.bool true) ∧ isN c "int" = isD c (.int 0) ∧ isN c "str" = isD c (.str "") ∧ isN c "list" = isD c (.list []) ∧ isN c "tuple" = isD c (.tuple []) ∧ isN c "dict" = isD c (.dict []) := by
  intro c
  cases c <;> decide +kernel
theorem isD_N (c : Cl) (d : PyData) : isN c (kindD d) = isD c d := by
  obtain ⟨h1, h2, h3, h4, h5, h6, h7⟩ := isN_tab c
  cases d with
  | none => exact h1
  | bool b => exact h2.trans (by cases c <;> rfl)
  | int i => exact h3.trans (by cases c <;> rfl)
  | str x => exact h4.trans (by cases c <;> rfl)
  | list x => exact h5.trans (by cases c <;> rfl)
  | tuple x => exact h6.trans (by cases c <;> rfl)
  | dict x => exact h7.trans (by cases c <;> rfl)
theorem isD_kit {K : PySem.W.Frag} (c : Cl) (d : PyData) : PySem.W.kitOne K (.type (kindD d)) (.type c.name) = some (isD c d) := by
  rw [← isD_N]
  exact kit_ty (isN_kit c _ (kindD_mem d))
theorem Th.ty {K : PySem.W.Frag} {H : Hp} {v : V} {d : PyData} (h : Th K H v d) : TyX K H v (.type (kindD d)) := by
  cases h with
  | non => exact .base .non
  | bl b => exact .base (.bl b)
  | int i => exact .base (.int i)
  | str x => exact .base (.str x)
  | lst h _ =>
    rcases h with (h | ⟨o, h⟩) | ⟨o, its, n, h, c, _⟩
    · exact .base (.lst h)
    · exact .base (.frz h)
    · exact .kList h c
  | tup h _ =>
    rcases h with (h | ⟨o, h⟩) | ⟨o, its, n, h, c, _⟩
    · exact .base (.tup h)
    · exact .fTuple h
    · exact .kTuple h c
  | dic h => exact .base (.dK h)
/-- isinstance(x, a built-in class) of any thing -/
def rIsD (K : PySem.W.Frag) (c : Cl) : List V → Hp → VK → Prop := fun xs H Q => ∃ x d, xs = [x, .ty c.name] ∧ Th K H x d ∧ Q (.bl (isD c d)) H
theorem call_isD {X : Cx} (c : Cl) : CallR X (.builtin "isinstance") (rIsD X.K c) := fun pins s σ H xs us Q I r ⟨x, d, e, h, q⟩ =>
  call_isi pins s σ H xs us Q I r ⟨x, .ty c.name, .type (kindD d), .type c.name, isD c d, e, .ty _, h.ty, isD_kit c d, q⟩
theorem rIsD_int {K : PySem.W.Frag} {x : V} {H : Hp} {Q : VK} : rIsD K .int [x, .ty "int"] H Q = ∃ d, Th K H x d ∧ Q (.bl (isD .int d)) H := propext ⟨fun ⟨y, d, e, h⟩ => by cases e; exact ⟨d, h⟩, fun ⟨d, h⟩ => ⟨x, d, rfl, h⟩⟩
theorem rIsD_bool {K : PySem.W.Frag} {x : V} {H : Hp} {Q : VK} : rIsD K .bool [x, .ty "bool"] H Q = ∃ d, Th K H x d ∧ Q (.bl (isD .bool d)) H := propext ⟨fun ⟨y, d, e, h⟩ => by cases e; exact ⟨d, h⟩, fun ⟨d, h⟩ => ⟨x, d, rfl, h⟩⟩
theorem rIsD_list {K : PySem.W.Frag} {x : V} {H : Hp} {Q : VK} : rIsD K .list [x, .ty "list"] H Q = ∃ d, Th K H x d ∧ Q (.bl (isD .list d)) H := propext ⟨fun ⟨y, d, e, h⟩ => by cases e; exact ⟨d, h⟩, fun ⟨d, h⟩ => ⟨x, d, rfl, h⟩⟩
theorem rIsD_tuple {K : PySem.W.Frag} {x : V} {H : Hp} {Q : VK} : rIsD K .tuple [x, .ty "tuple"] H Q = ∃ d, Th K H x d ∧ Q (.bl (isD .tuple d)) H := propext ⟨fun ⟨y, d, e, h⟩ => by cases e; exact ⟨d, h⟩, fun ⟨d, h⟩ => ⟨x, d, rfl, h⟩⟩
def wholeD : PyData → Bool
  | .int _ => true
  | _ => false
def numD : PyData → Bool
  | .int i => decide (0 ≤ i) && decide (i ≤ 1000000000)
  | _ => false
theorem wholeD_is (d : PyData) : (isD .int d && !isD .bool d) = wholeD d := by cases d <;> rfl
theorem pe_globI {X : Cx} {x : Str} {i : Int} {t : Tok} {pos : Pos} (hg : Gl X x) (hm : X.mg x = some (.int i t)) (hd : (x == ("__debug__" : Str)) = false := by decide) : PE X (.Name x pos) (tC (.int i)) := pe_glob hg hm ⟨_, rfl⟩ hd
theorem cutV_mem {xs : List V} {lo hi : Option Int} {x : V} (h : x ∈ cutV xs lo hi) : x ∈ xs := List.mem_of_mem_drop (List.mem_of_mem_take h)
theorem gCons_c {t : TG} {u : TGs} {v : V} {r : List V} {σ : L2.St} {H : Hp} {Q : L2.St → Hp → Prop} : gCons t u (v :: r) σ H Q = t v σ H fun σ' H' => u r σ' H' Q := propext ⟨fun ⟨a, b, e, h⟩ => by cases e; exact h, fun h => ⟨v, r, rfl, h⟩⟩
theorem gNil_n {σ : L2.St} {H : Hp} {Q : L2.St → Hp → Prop} : gNil [] σ H Q = Q σ H := propext ⟨fun h => h.2, fun h => ⟨rfl, h⟩⟩
/-! ### loops and comprehensions, kept shut -/
def LoopR (J : It) (g : TG) (tb : TS) (D : Ends) (σ : L2.St) (H : Hp) : Prop := ∃ W : Nat → Nat → L2.St → Hp → Prop, (∃ m, W 0 m σ H) ∧ ∀ i m σ H, W i m σ H →
  (J.stop i H ∧ D.nx σ H) ∨ (J.go i H ∧ ∃ N : L2.St → Hp → Prop, (∀ σ' H', N σ' H' → ∃ m', m' < m ∧ W (i + 1) m' σ' H') ∧ ∀ x H', J.yld i H x H' → g x σ H' fun σ2 H2 => tb { D with nx := N, ct := N, bk := D.nx } σ2 H2)
theorem tFor_eq {wi : TI} {g : TG} {tb : TS} {D : Ends} {σ : L2.St} {H : Hp} : tFor wi g tb D σ H = wi σ H fun J H1 => LoopR J g tb D σ H1 := rfl
theorem LoopR.by {J : It} {n : Nat} {G : Hp → Prop} {Y : Nat → Hp → V → Hp → Prop} (w : Walk J n G Y) {g : TG} {tb : TS} {D : Ends} {σ : L2.St} {H : Hp} (Pv : Nat → L2.St → Hp → Prop) (h0 : Pv 0 σ H) (hG : ∀ i σ H, i ≤ n → Pv i σ H → G H)
    (hs : ∀ i x σ H H', i < n → Pv i σ H → Y i H x H' → g x σ H' fun σ2 H2 => tb { D with nx := Pv (i + 1), ct := Pv (i + 1), bk := D.nx } σ2 H2) (hd : ∀ σ H, Pv n σ H → D.nx σ H) : LoopR J g tb D σ H := for_it w Pv h0 hG hs hd
def LcR (J : It) (g : TG) (tt : TT) (te : TE) (vs : List Nat) (σ : L2.St) (D : Addr) (H1 : Hp) (Qd : Hp → Prop) : Prop := ∃ W : Nat → Nat → Hp → Prop, (∃ m, W 0 m (upd H1 D (.lst []))) ∧ ∀ i m H, W i m H →
  (J.stop i H ∧ Qd H) ∨ (J.go i H ∧ ∃ Nx : Hp → Prop, (∀ H', Nx H' → ∃ m', m' < m ∧ W (i + 1) m' H') ∧ ∀ x H', J.yld i H x H' → g x (wipe σ vs) H' fun σ2 H2 => wipe σ2 vs = wipe σ vs ∧ tt σ2 H2 fun b H3 =>
    if b = true then te σ2 H3 fun y H4 => ∃ acc, H4 D = some (.lst acc) ∧ acc.length < sizeLine ∧ Nx (upd H4 D (.lst (acc ++ [y]))) else Nx H3)
theorem tLc_eq {wi : TI} {g : TG} {tt : TT} {te : TE} {vs : List Nat} {σ : L2.St} {H : Hp} {Q : VK} : tLc wi g tt te vs σ H Q = wi σ H fun J H1 => ∀ D, H1 D = none → LcR J g tt te vs σ D H1 (fun H => Q (.ref D) H) := rfl
theorem LcR.by {J : It} {n : Nat} {G : Hp → Prop} {Y : Nat → Hp → V → Hp → Prop} (w : Walk J n G Y) {g : TG} {tt : TT} {te : TE} {vs : List Nat} {σ : L2.St} {H1 : Hp} {D : Addr} {Qd : Hp → Prop} (Pv : Nat → Hp → Prop) (h0 : Pv 0 (upd H1 D (.lst []))) (hG : ∀ i H, i ≤ n → Pv i H → G H)
    (hs : ∀ i x H H', i < n → Pv i H → Y i H x H' → g x (wipe σ vs) H' fun σ2 H2 => wipe σ2 vs = wipe σ vs ∧ tt σ2 H2 fun b H3 =>
      if b = true then te σ2 H3 fun y H4 => ∃ acc, H4 D = some (.lst acc) ∧ acc.length < sizeLine ∧ Pv (i + 1) (upd H4 D (.lst (acc ++ [y]))) else Pv (i + 1) H3) (hd : ∀ H, Pv n H → Qd H) : LcR J g tt te vs σ D H1 Qd := lc_it w Pv h0 hG hs hd
theorem gTup_r {K : PySem.W.Frag} {n : Nat} {t : TGs} {a : Addr} {σ : L2.St} {H : Hp} {Q : L2.St → Hp → Prop} : gTup K n t (.ref a) σ H Q = ∃ xs, SqT K H a xs ∧ xs.length = n ∧ t xs σ H Q := propext ⟨fun ⟨b, xs, e, h⟩ => by cases e; exact ⟨xs, h⟩, fun ⟨xs, h⟩ => ⟨a, xs, rfl, h⟩⟩
def rEnum (K : PySem.W.Frag) (vs : List V) (H1 : Hp) (R : It → Hp → Prop) : Prop := ∃ a xs, vs = [.ref a] ∧ SqL K H1 a xs ∧ R (Ite K a) H1
theorem iEnum_eq {K : PySem.W.Frag} {ta : TA} {σ : L2.St} {H : Hp} {R : It → Hp → Prop} : iEnum K ta σ H R = ta σ H fun vs H1 => rEnum K vs H1 R := rfl
theorem rEnum_r {K : PySem.W.Frag} {a : Addr} {H : Hp} {R : It → Hp → Prop} : rEnum K [.ref a] H R = ∃ xs, SqL K H a xs ∧ R (Ite K a) H := propext ⟨fun ⟨b, xs, e, h⟩ => by cases e; exact ⟨xs, h⟩, fun ⟨xs, h⟩ => ⟨a, xs, rfl, h⟩⟩
def rZip (K : PySem.W.Frag) (vs : List V) (H1 : Hp) (R : It → Hp → Prop) : Prop := ∃ a b xs ys, vs = [.ref a, .ref b] ∧ SqL K H1 a xs ∧ SqL K H1 b ys ∧ R (Itz K a b) H1
theorem iZip_eq {K : PySem.W.Frag} {ta : TA} {σ : L2.St} {H : Hp} {R : It → Hp → Prop} : iZip K ta σ H R = ta σ H fun vs H1 => rZip K vs H1 R := rfl
theorem rZip_r {K : PySem.W.Frag} {a b : Addr} {H : Hp} {R : It → Hp → Prop} : rZip K [.ref a, .ref b] H R = ∃ xs ys, SqL K H a xs ∧ SqL K H b ys ∧ R (Itz K a b) H := propext ⟨fun ⟨_, _, xs, ys, e, h⟩ => by cases e; exact ⟨xs, ys, h⟩, fun ⟨xs, ys, h⟩ => ⟨a, b, xs, ys, rfl, h⟩⟩
def rRng1 (vs : List V) (H1 : Hp) (R : It → Hp → Prop) : Prop := ∃ j : Int, vs = [.int j] ∧ -(2 ^ 62) ≤ j ∧ j < 2 ^ 62 ∧ R (Itr 0 j.toNat) H1
theorem iRng1_eq {ta : TA} {σ : L2.St} {H : Hp} {R : It → Hp → Prop} : iRng1 ta σ H R = ta σ H fun vs H1 => rRng1 vs H1 R := rfl
theorem rRng1_i {j : Int} {H : Hp} {R : It → Hp → Prop} : rRng1 [.int j] H R = (-(2 ^ 62) ≤ j ∧ j < 2 ^ 62 ∧ R (Itr 0 j.toNat) H) := propext ⟨fun ⟨_, e, h⟩ => by cases e; exact h, fun h => ⟨j, rfl, h⟩⟩
def rRng2 (vs : List V) (H1 : Hp) (R : It → Hp → Prop) : Prop := ∃ i j : Int, vs = [.int i, .int j] ∧ (-(2 ^ 62) ≤ i ∧ i < 2 ^ 62 ∧ -(2 ^ 62) ≤ j ∧ j < 2 ^ 62) ∧ R (Itr i (j - i).toNat) H1
theorem iRng2_eq {ta : TA} {σ : L2.St} {H : Hp} {R : It → Hp → Prop} : iRng2 ta σ H R = ta σ H fun vs H1 => rRng2 vs H1 R := rfl
theorem rRng2_i {i j : Int} {H : Hp} {R : It → Hp → Prop} : rRng2 [.int i, .int j] H R = ((-(2 ^ 62) ≤ i ∧ i < 2 ^ 62 ∧ -(2 ^ 62) ≤ j ∧ j < 2 ^ 62) ∧ R (Itr i (j - i).toNat) H) := propext ⟨fun ⟨_, _, e, h⟩ => by cases e; exact h, fun h => ⟨i, j, rfl, h⟩⟩
theorem rSlL_r {K : PySem.W.Frag} {a : Addr} {lo hi : Option Int} {H : Hp} {Q : VK} : rSlL K (.ref a) lo hi H Q = ∃ xs, SqL K H a xs ∧ ∀ p, H p = none → Q (.ref p) (upd H p (.lst (cutV xs lo hi))) := propext ⟨fun ⟨_, xs, e, h⟩ => by cases e; exact ⟨xs, h⟩, fun ⟨xs, h⟩ => ⟨a, xs, rfl, h⟩⟩
theorem rCat_r {l b : Addr} {H : Hp} {Q : VK} : rCat (.ref l) (.ref b) H Q = ∃ xs zs, H l = some (.lst xs) ∧ H b = some (.lst zs) ∧ xs.length + zs.length ≤ sizeLine ∧ ∀ p, H p = none → Q (.ref p) (upd H p (.lst (xs ++ zs))) := propext ⟨fun ⟨_, _, xs, zs, e1, e2, h⟩ => by cases e1; cases e2; exact ⟨xs, zs, h⟩, fun ⟨xs, zs, h⟩ => ⟨l, b, xs, zs, rfl, rfl, h⟩⟩
end Bk

namespace Bk
open PySem PySem.Spec PyProof.Rows L2
/-! ### a comprehension without tests, by what each turn gives -/
theorem LcR.map {J : It} {n : Nat} {G : Hp → Prop} {Y : Nat → Hp → V → Hp → Prop} (w : Walk J n G Y) {g : TG} {te : TE} {vs : List Nat} {σ : L2.St} {H1 : Hp} {D : Addr} {Qd : Hp → Prop} (ys : List V) (hD : H1 D = none) (hn : ys.length = n) (hz : n ≤ 100000)
    (hG : ∀ H, Same H1 H → G H) (hY : ∀ i H x H', Y i H x H' → Same H H')
    (hs : ∀ i x y H H', i < n → Same H1 H' → Y i H x H' → ys[i]? = some y → ∀ R : V → Hp → Prop, (∀ H4, Same H' H4 → R y H4) → g x (wipe σ vs) H' fun σ2 H2 => wipe σ2 vs = wipe σ vs ∧ te σ2 H2 R)
    (hd : ∀ H, Same H1 H → H D = some (.lst ys) → Qd H) : LcR J g tYes te vs σ D H1 Qd := by
  refine LcR.by w (fun i H => Same H1 H ∧ H D = some (.lst (ys.take i))) ⟨same_upd hD, by rw [upd_same]; rfl⟩ (fun i H _ h => hG H h.1) (fun i x H H' hi h y => ?_) (fun H h => hd H h.1 ?_)
  · have s := hY _ _ _ _ y
    have e : ys[i]? = some (ys[i]'(by omega)) := List.getElem?_eq_getElem (by omega)
    refine hs i x _ H H' hi (h.1.trans s) y e _ fun H4 s4 => ?_
    have e4 := s4 _ _ (s _ _ h.2)
    refine ⟨_, e4, ?_, same_mut ((h.1.trans s).trans s4) hD, ?_⟩
    · rw [List.length_take]
      exact sz100l (by omega)
    · rw [upd_same, List.take_add_one, e]
      rfl
  · rw [← hn, List.take_length] at h
    exact h.2
theorem yat_same {xs : List V} {i : Nat} {H H' : Hp} {x : V} (y : YAt xs i H x H') : Same H H' := by
  rw [y.1]
  exact Same.refl H
theorem ypair_same {xs ys : Nat → Option V} {i : Nat} {H H' : Hp} {x : V} (y : YPair xs ys i H x H') : Same H H' := by
  obtain ⟨T, a, b, _, hT, e, _⟩ := y
  rw [e]
  exact same_upd hT
theorem rAll_r {K : PySem.W.Frag} {p : Addr} {H : Hp} {Q : VK} : rAll K [.ref p] H Q = ∃ bs : List Bool, SqL K H p (bs.map V.bl) ∧ Q (.bl (bs.all id)) H := propext ⟨fun ⟨a, bs, e, h⟩ => by cases e; exact ⟨bs, h⟩, fun ⟨bs, h⟩ => ⟨p, bs, rfl, h⟩⟩
theorem rSum_r {K : PySem.W.Frag} {p : Addr} {H : Hp} {Q : VK} : rSum K [.ref p] H Q = ∃ ns : List Int, SqL K H p (ns.map V.int) ∧ Q (.int ns.sum) H := propext ⟨fun ⟨a, bs, e, h⟩ => by cases e; exact ⟨bs, h⟩, fun ⟨bs, h⟩ => ⟨p, bs, rfl, h⟩⟩
/-! ### what a bakery is, as data -/
structure Day where
  want : Int
  loaf : Int
  keep : Int
  fine : Option Int
structure Good where
  days : List Day
  life : Option Int
structure Bak where
  lights : List Int
  bound : Option Int
  goods : List Good
def optD : Option Int → PyData
  | none => .none
  | some i => .int i
def dayD (d : Day) : PyData := .tuple [.int d.want, .int d.loaf, .int d.keep, optD d.fine]
def goodD (g : Good) : PyData := .tuple [.list (g.days.map dayD), optD g.life]
def bakD (b : Bak) : PyData := .tuple [.list (b.lights.map PyData.int), optD b.bound, .list (b.goods.map goodD)]
def tupB (n : Nat) : PyData → Bool
  | .tuple ds => decide (ds.length = n)
  | _ => false
def listB (lo hi : Nat) : PyData → Bool
  | .list ds => decide (lo ≤ ds.length) && decide (ds.length ≤ hi)
  | _ => false
def lightsB : PyData → Bool
  | .list ds => listB 1 40 (.list ds) && ds.all numD
  | _ => false
def boundB : PyData → Bool
  | .none => true
  | .int i => numD (.int i) && decide (1 ≤ i)
  | _ => false
def lifeB : PyData → Bool
  | .none => true
  | .int i => decide (0 ≤ i) && decide (i ≤ 40)
  | _ => false
def noneB : PyData → Bool
  | .none => true
  | _ => false
def dayB : PyData → Bool
  | .tuple [a, b, c, f] => (numD a && numD b && numD c) && (noneB f || numD f)
  | _ => false
def goodFormB (n : Nat) : PyData → Bool
  | .tuple [ds, l] => listB n n ds && lifeB l
  | _ => false
def bakFormB : PyData → Bool
  | .tuple [l, b, g] => lightsB l && (boundB b && listB 1 2 g)
  | _ => false
/-- a good of n days -/
def goodB (n : Nat) : PyData → Bool
  | .tuple [.list ds, l] => decide (ds.length = n) && lifeB l && ds.all dayB
  | _ => false
def bakB : PyData → Bool
  | .tuple [.list ls, b, .list gs] => lightsB (.list ls) && boundB b && listB 1 2 (.list gs) && gs.all (goodB ls.length)
  | _ => false
theorem Th.isNon {K : PySem.W.Frag} {H : Hp} {x : V} {d : PyData} (h : Th K H x d) : decide (x = V.non) = noneB d := by cases h <;> rfl
theorem qb {Q : VK} {H : Hp} {a b : Bool} (e : a = b) (q : Q (.bl b) H) : Q (.bl a) H := by
  rw [e]
  exact q
theorem two {α : Type} {l : List α} (h : l.length = 2) : ∃ a b, l = [a, b] := by
  match l, h with
  | [a, b], _ => exact ⟨a, b, rfl⟩
theorem three {α : Type} {l : List α} (h : l.length = 3) : ∃ a b c, l = [a, b, c] := by
  match l, h with
  | [a, b, c], _ => exact ⟨a, b, c, rfl⟩
theorem four {α : Type} {l : List α} (h : l.length = 4) : ∃ a b c d, l = [a, b, c, d] := by
  match l, h with
  | [a, b, c, d], _ => exact ⟨a, b, c, d, rfl⟩
theorem goodB_inv {n : Nat} {d : PyData} (h : goodB n d = true) : ∃ ds l, d = .tuple [.list ds, l] ∧ ds.length = n ∧ lifeB l = true ∧ ds.all dayB = true := by
  unfold goodB at h
  split at h
  · rename_i ds l
    rw [Bool.and_eq_true, Bool.and_eq_true] at h
    exact ⟨ds, l, rfl, of_decide_eq_true h.1.1, h.1.2, h.2⟩
  · cases h
theorem bakB_inv {d : PyData} (h : bakB d = true) : ∃ ls b gs, d = .tuple [.list ls, b, .list gs] ∧ lightsB (.list ls) = true ∧ boundB b = true ∧ listB 1 2 (.list gs) = true ∧ gs.all (goodB ls.length) = true := by
  unfold bakB at h
  split at h
  · rename_i ls b gs
    rw [Bool.and_eq_true, Bool.and_eq_true, Bool.and_eq_true] at h
    exact ⟨ls, b, gs, rfl, h.1.1.1, h.1.1.2, h.1.2, h.2⟩
  · cases h
/-- a bakery, part by part -/
theorem Th.bak {K : PySem.W.Frag} {H : Hp} {x : V} {b : Bak} (h : Th K H x (bakD b)) : ∃ (a l : Addr) (v : V) (g : Addr) (xl xg : List V), x = .ref a ∧ SqT K H a [.ref l, v, .ref g] ∧ SqL K H l xl ∧ ThAll K H xl (b.lights.map PyData.int) ∧ Th K H v (optD b.bound) ∧ SqL K H g xg ∧ ThAll K H xg (b.goods.map goodD) := by
  cases h with
  | tup ht hta =>
  cases hta with
  | cons t1 hta => cases hta with
  | cons t2 hta => cases hta with
  | cons t3 hta =>
  cases hta
  cases t1 with
  | lst h1 h2 =>
  cases t3 with
  | lst h3 h4 =>
  exact ⟨_, _, _, _, _, _, rfl, ht, h1, h2, t2, h3, h4⟩
def optV : Option Int → V
  | none => .non
  | some i => .int i
theorem Th.opt {K : PySem.W.Frag} {H : Hp} {v : V} {o : Option Int} (h : Th K H v (optD o)) : v = optV o := by
  cases o with
  | none =>
    cases h
    rfl
  | some i =>
    cases h
    rfl
theorem Th.optV {K : PySem.W.Frag} {H : Hp} (o : Option Int) : Th K H (Bk.optV o) (optD o) := by
  cases o with
  | none => exact .non
  | some i => exact .int i
theorem Th.day {K : PySem.W.Frag} {H : Hp} {x : V} {d : Day} (h : Th K H x (dayD d)) : ∃ t, x = .ref t ∧ SqT K H t [.int d.want, .int d.loaf, .int d.keep, Bk.optV d.fine] := by
  cases h with
  | tup ht hta =>
  cases hta with
  | cons t1 hta => cases hta with
  | cons t2 hta => cases hta with
  | cons t3 hta => cases hta with
  | cons t4 hta =>
  cases hta
  cases t1
  cases t2
  cases t3
  rw [t4.opt] at ht
  exact ⟨_, rfl, ht⟩
theorem Th.good {K : PySem.W.Frag} {H : Hp} {x : V} {g : Good} (h : Th K H x (goodD g)) : ∃ t a xs, x = .ref t ∧ SqT K H t [.ref a, Bk.optV g.life] ∧ SqL K H a xs ∧ ThAll K H xs (g.days.map dayD) := by
  cases h with
  | tup ht hta =>
  cases hta with
  | cons t1 hta => cases hta with
  | cons t2 hta =>
  cases hta
  cases t1 with
  | lst h1 h2 =>
  rw [t2.opt] at ht
  exact ⟨_, _, _, rfl, ht, h1, h2⟩
theorem ThAll.drop {K : PySem.W.Frag} {H : Hp} : ∀ {vs : List V} {ds : List PyData} (n : Nat), ThAll K H vs ds → ThAll K H (vs.drop n) (ds.drop n)
  | _, _, 0, h => h
  | _, _, _ + 1, .nil => .nil
  | _, _, n + 1, .cons _ t => ThAll.drop n t
theorem ThAll.take {K : PySem.W.Frag} {H : Hp} : ∀ {vs : List V} {ds : List PyData} (n : Nat), ThAll K H vs ds → ThAll K H (vs.take n) (ds.take n)
  | _, _, 0, _ => .nil
  | _, _, _ + 1, .nil => .nil
  | _, _, n + 1, .cons h t => .cons h (ThAll.take n t)
theorem ThAll.append {K : PySem.W.Frag} {H : Hp} : ∀ {vs ws : List V} {ds es : List PyData}, ThAll K H vs ds → ThAll K H ws es → ThAll K H (vs ++ ws) (ds ++ es)
  | _, _, _, _, .nil, h => h
  | _, _, _, _, .cons h t, h2 => .cons h (ThAll.append t h2)
theorem cutV_nat (xs : List V) (i j : Nat) : cutV xs (some (i : Int)) (some (j : Int)) = (xs.drop i).take (j - i) := by
  unfold cutV
  rw [HT.sIx_nat, HT.sIx_nat]
  by_cases hi : i ≤ xs.length
  · rw [Nat.min_eq_left hi]
    by_cases hj : j ≤ xs.length
    · rw [Nat.min_eq_left hj]
    · rw [Nat.min_eq_right (by omega), List.take_of_length_le (by rw [List.length_drop]; omega), List.take_of_length_le (by rw [List.length_drop]; omega)]
  · rw [show min i xs.length = xs.length by omega, List.drop_of_length_le (Nat.le_refl _), List.drop_of_length_le (show xs.length ≤ i by omega), List.take_nil, List.take_nil]
/-! ### the price of a loaf -/
def sumO : List (Option Int) → Option Int
  | [] => some 0
  | none :: _ => none
  | some x :: r => (sumO r).map (x + ·)
def keepsL (ds : List Day) (i j : Nat) : Int := (((ds.drop i).take (j - i)).map Day.keep).sum
def finesL (ds : List Day) (i j : Nat) : Option Int := sumO (((ds.drop i).take (j - i)).map Day.fine)
/-- a loaf of a good, baked on day j, given for day k -/
def loafP (g : Good) (j k : Nat) : Option Int := match g.days[j]? with
  | none => none
  | some d => if k < j then (finesL g.days k j).map (d.loaf + ·) else match g.life with
    | none => some (d.loaf + keepsL g.days j k)
    | some l => if l < (k : Int) - (j : Int) then none else some (d.loaf + keepsL g.days j k)
theorem sumO_none : ∀ {l : List (Option Int)}, inV .non (l.map optV) = true → sumO l = none
  | [], h => by cases h
  | none :: _, _ => rfl
  | some x :: r, h => by
    have h2 : inV .non (r.map optV) = true := by
      have h1 : (eqV (.int x) .non || inV .non (r.map optV)) = true := h
      simpa [eqV] using h1
    show (sumO r).map (x + ·) = none
    rw [sumO_none h2]
    rfl
theorem sumO_some : ∀ {l : List (Option Int)}, inV .non (l.map optV) = false → ∃ ns : List Int, l.map optV = ns.map V.int ∧ sumO l = some ns.sum
  | [], _ => ⟨[], rfl, rfl⟩
  | none :: r, h => by
    have h1 : (eqV .non .non || inV .non (r.map optV)) = false := h
    simp [eqV] at h1
  | some x :: r, h => by
    have h2 : inV .non (r.map optV) = false := by
      have h1 : (eqV (.int x) .non || inV .non (r.map optV)) = false := h
      simpa [eqV] using h1
    obtain ⟨ns, e1, e2⟩ := sumO_some h2
    refine ⟨x :: ns, ?_, ?_⟩
    · show V.int x :: r.map optV = V.int x :: ns.map V.int
      rw [e1]
    · show (sumO r).map (x + ·) = some (x :: ns).sum
      rw [e2, List.sum_cons]
      rfl
theorem rIn_r {K : PySem.W.Frag} {x : V} {p : Addr} {H : Hp} {Q : VK} : rIn K false x (.ref p) H Q = ∃ xs, (SqL K H p xs ∨ SqT K H p xs) ∧ flatV x = true ∧ xs.all flatV = true ∧ Q (.bl (inV x xs)) H :=
  propext ⟨fun ⟨_, xs, e, h⟩ => by cases e; exact ⟨xs, h⟩, fun ⟨xs, h⟩ => ⟨p, xs, rfl, h⟩⟩
theorem flat_opts (l : List (Option Int)) : (l.map optV).all flatV = true := by
  rw [List.all_eq_true]
  intro x hx
  obtain ⟨o, _, rfl⟩ := List.mem_map.mp hx
  cases o <;> rfl
end Bk

namespace Bk
open PySem PySem.Spec PyProof.Rows L2
/-! ### xs[a:b:c] of a list: some of its items -/
theorem vals_pick {xs : List V} {us : List Value} (r : Vals xs us) : ∀ is : List Nat, Vals (is.filterMap (xs[·]?)) (is.filterMap (us[·]?))
  | [] => .nil
  | i :: is => by
    have ih := vals_pick r is
    cases e : xs[i]? with
    | none =>
      rw [List.filterMap_cons_none e, List.filterMap_cons_none (r.none_of e)]
      exact ih
    | some x =>
      obtain ⟨u, e2, r2⟩ := r.get e
      rw [List.filterMap_cons_some e, List.filterMap_cons_some e2]
      exact .cons r2 ih
/-- the items of xs[l:u:st] -/
def stepV (xs : List V) (l u st : Option Int) : List V := (sliceRange (sliceBounds l u st xs.length).1 (sliceBounds l u st xs.length).2.1 (sliceBounds l u st xs.length).2.2).filterMap (xs[·]?)
theorem pick_length {α : Type} {xs : List α} : ∀ {is : List Nat}, (∀ i ∈ is, i < xs.length) → (is.filterMap (xs[·]?)).length = is.length
  | [], _ => rfl
  | i :: is, h => by
    rw [List.filterMap_cons_some (List.getElem?_eq_getElem (h i List.mem_cons_self)), List.length_cons, List.length_cons, pick_length fun j hj => h j (List.mem_cons_of_mem _ hj)]
theorem stepV_mem {xs : List V} {l u st : Option Int} {y : V} (h : y ∈ stepV xs l u st) : y ∈ xs := by
  obtain ⟨i, _, e⟩ := List.mem_filterMap.mp h
  exact List.mem_of_getElem? e
/-- xs[:0:-1] has one less -/
theorem stepV_back (xs : List V) : (stepV xs none (some 0) (some (-1))).length = xs.length - 1 := by
  unfold stepV
  by_cases h : xs.length = 0
  · have e : xs = [] := List.length_eq_zero_iff.mp h
    subst e
    rfl
  · have eb : sliceBounds none (some 0) (some (-1)) xs.length = ((xs.length : Int) - 1, 0, -1) := by
      simp only [sliceBounds, Option.getD_some, show ¬ ((-1 : Int) > 0) by decide, if_false, show ¬ ((0 : Int) < 0) by decide]
      rw [show max (-1 : Int) (min 0 ((xs.length : Int) - 1)) = 0 by omega]
    rw [eb]
    have er : (sliceRange ((xs.length : Int) - 1) 0 (-1)) = (List.range (xs.length - 1)).map fun (k : Nat) => ((xs.length : Int) - 1 + -1 * (k : Int)).toNat := by
      unfold sliceRange
      simp only [show ¬ ((-1 : Int) > 0) by decide, if_false]
      congr 2
      by_cases h2 : (xs.length : Int) - 1 > 0
      · rw [if_pos h2, show (- -1 : Int) = 1 by decide, Int.ediv_one]
        omega
      · rw [if_neg h2]
        omega
    rw [er, pick_length, List.length_map, List.length_range]
    intro i hi
    obtain ⟨k, hk, rfl⟩ := List.mem_map.mp hi
    have := List.mem_range.mp hk
    omega
def tStep (K : PySem.W.Frag) (te : TE) (tl th ts : TO) : TE := fun σ H Q => te σ H fun x H1 => tl σ H1 fun l H2 => th σ H2 fun u H3 => ts σ H3 fun st H4 => ∃ a xs, x = .ref a ∧ SqL K H4 a xs ∧ st ≠ some 0 ∧
  ∀ p, H4 p = none → Q (.ref p) (upd H4 p (.lst (stepV xs l u st)))
theorem pe_step {X : Cx} {e : Expr} {lo hi st : Option Expr} {te : TE} {tl th ts : TO} {p3 pos : Pos} (he : PE X e te) (hl : PO X lo tl) (hu : PO X hi th) (hst : PO X st ts)
    (hsub : ∀ a i, subscripted (.Slice lo hi st p3) false a i = operate [a, i] (getItem a i) := by intro _ _; with_unfolding_all rfl) : PE X (.Subscript e (.Slice lo hi st p3) pos) (tStep X.K te tl th ts) := by
  refine ⟨fun pins s σ H Q I h => ?_⟩
  refine Subscript_ (thn (he.run pins s σ H _ I h) fun v s1 ⟨x, H1, I1, r1, q1⟩ => ?_)
  refine wpAny_Slice (thn (hl.run pins s1 σ H1 _ I1 q1) fun vl s2 ⟨l, H2, I2, pl, q2⟩ => ?_)
  refine thn (hu.run pins s2 σ H2 _ I2 q2) fun vu s3 ⟨u, H3, I3, pu, q3⟩ => ?_
  refine thn (hst.run pins s3 σ H3 _ I3 q3) fun vs s4 ⟨o, H4, I4, ps, q4⟩ => ?_
  obtain ⟨a, xs, ex, hx, h0, q⟩ := q4
  subst ex
  cases r1
  have I5 : Inv X pins σ H4 { s4 with heap := s4.heap.push { cls := .type "slice", data := .fields #[vl, vu, vs] } } := I4.kept (t' := s4.toks) fun b ob q => Heap.get?_push_of_some _ q
  obtain ⟨its, r, ht, hz⟩ := I5.list hx
  have hlen := r.length
  show wpAny (model X.prog X.w) X.A (subscriptTail e (.Slice lo hi st p3) (.ref a) (.ref s4.heap.objs.size)) (EP X pins σ Q) X.xe { s4 with heap := s4.heap.push { cls := .type "slice", data := .fields #[vl, vu, vs] } }
  refine tail_any (ops := [.ref a, .ref s4.heap.objs.size]) ht.isList.typeIs (PySem.slot_list_getitem.lookup) ?_ (hsub _ _)
  refine wpAny_getItem_list_slice ht.isList (Heap.IsSliceOf.new _ vl vu vs) pl pu ps h0 ?_ (by rw [List.size_toArray]; omega)
  have hpk : slicePick its.toArray l u o = ((sliceRange (sliceBounds l u o xs.length).1 (sliceBounds l u o xs.length).2.1 (sliceBounds l u o xs.length).2.2).filterMap (its[·]?)).toArray := by
    unfold slicePick
    rw [List.size_toArray, ← hlen]
    simp
  have rp : Vals (stepV xs l u o) _ := vals_pick r (sliceRange (sliceBounds l u o xs.length).1 (sliceBounds l u o xs.length).2.1 (sliceBounds l u o xs.length).2.2)
  have hle := slicePick_size_le its.toArray l u o
  rw [hpk] at hle ⊢
  rw [List.size_toArray, List.size_toArray] at hle
  have hl2 : (stepV xs l u o).length ≤ xs.length := by
    rw [rp.length]
    omega
  refine ⟨.ref _, _, I5.laid (t' := s4.toks) (o := .lst (stepV xs l u o)) (fun b ob q => Heap.get?_push_of_some _ q) (Nat.le_refl _) ?_, rfl, q _ (I5.hok.fresh (Nat.le_refl _))⟩
  exact ⟨by omega, _, 0, rp, Heap.get?_push_size _ rfl⟩
theorem tStep_r {K : PySem.W.Frag} {te : TE} {tl th ts : TO} {σ : L2.St} {H : Hp} {Q : VK} : tStep K te tl th ts σ H Q = te σ H fun x H1 => tl σ H1 fun l H2 => th σ H2 fun u H3 => ts σ H3 fun st H4 => ∃ a xs, x = .ref a ∧ SqL K H4 a xs ∧ st ≠ some 0 ∧
  ∀ p, H4 p = none → Q (.ref p) (upd H4 p (.lst (stepV xs l u st))) := rfl
/-! ### data in objects that are tracked as they are -/
mutual
inductive Tk (H : Hp) : V → PyData → Prop
  | non : Tk H .non .none
  | bl (b : Bool) : Tk H (.bl b) (.bool b)
  | int (i : Int) : Tk H (.int i) (.int i)
  | str (x : Str) : Tk H (.str x) (.str x)
  | lst {a : Addr} {xs : List V} {ds : List PyData} : H a = some (.lst xs) → TkAll H xs ds → Tk H (.ref a) (.list ds)
  | tup {a : Addr} {xs : List V} {ds : List PyData} : H a = some (.tup xs) → TkAll H xs ds → Tk H (.ref a) (.tuple ds)
  | dic {a : Addr} : H a = some (.dK []) → Tk H (.ref a) (.dict [])
inductive TkAll (H : Hp) : List V → List PyData → Prop
  | nil : TkAll H [] []
  | cons {v : V} {vs : List V} {d : PyData} {ds : List PyData} : Tk H v d → TkAll H vs ds → TkAll H (v :: vs) (d :: ds)
end

mutual
theorem Tk.th {K : PySem.W.Frag} {H : Hp} : ∀ {v : V} {d : PyData}, Tk H v d → Th K H v d
  | _, _, .non => .non
  | _, _, .bl b => .bl b
  | _, _, .int i => .int i
  | _, _, .str x => .str x
  | _, _, .lst h t => .lst (SqL.of h) (TkAll.th t)
  | _, _, .tup h t => .tup (SqT.of h) (TkAll.th t)
  | _, _, .dic h => .dic h
theorem TkAll.th {K : PySem.W.Frag} {H : Hp} : ∀ {vs : List V} {ds : List PyData}, TkAll H vs ds → ThAll K H vs ds
  | _, _, .nil => .nil
  | _, _, .cons h t => .cons (Tk.th h) (TkAll.th t)
end

mutual
theorem Tk.same {H H' : Hp} (e : Same H H') : ∀ {v : V} {d : PyData}, Tk H v d → Tk H' v d
  | _, _, .non => .non
  | _, _, .bl b => .bl b
  | _, _, .int i => .int i
  | _, _, .str x => .str x
  | _, _, .lst h t => .lst (e _ _ h) (TkAll.same e t)
  | _, _, .tup h t => .tup (e _ _ h) (TkAll.same e t)
  | _, _, .dic h => .dic (e _ _ h)
theorem TkAll.same {H H' : Hp} (e : Same H H') : ∀ {vs : List V} {ds : List PyData}, TkAll H vs ds → TkAll H' vs ds
  | _, _, .nil => .nil
  | _, _, .cons h t => .cons (Tk.same e h) (TkAll.same e t)
end
theorem TkAll.append {H : Hp} : ∀ {vs ws : List V} {ds es : List PyData}, TkAll H vs ds → TkAll H ws es → TkAll H (vs ++ ws) (ds ++ es)
  | _, _, _, _, .nil, h => h
  | _, _, _, _, .cons h t, h2 => .cons h (TkAll.append t h2)
theorem TkAll.take {H : Hp} : ∀ {vs : List V} {ds : List PyData} (n : Nat), TkAll H vs ds → TkAll H (vs.take n) (ds.take n)
  | _, _, 0, _ => .nil
  | _, _, _ + 1, .nil => .nil
  | _, _, n + 1, .cons h t => .cons h (TkAll.take n t)
theorem TkAll.length {H : Hp} : ∀ {vs : List V} {ds : List PyData}, TkAll H vs ds → vs.length = ds.length
  | _, _, .nil => rfl
  | _, _, .cons _ t => by rw [List.length_cons, List.length_cons, TkAll.length t]
theorem TkAll.get {H : Hp} : ∀ {vs : List V} {ds : List PyData} {i : Nat} {v : V}, TkAll H vs ds → vs[i]? = some v → ∃ d, ds[i]? = some d ∧ Tk H v d
  | _, _, _, _, .nil, e => by simp at e
  | _, _, 0, _, .cons h _, e => by
    rw [List.getElem?_cons_zero] at e
    cases e
    exact ⟨_, List.getElem?_cons_zero .., h⟩
  | _, _, i + 1, _, .cons _ t, e => by
    rw [List.getElem?_cons_succ] at e
    obtain ⟨d, h1, h2⟩ := TkAll.get t e
    exact ⟨d, by rw [List.getElem?_cons_succ]; exact h1, h2⟩
theorem TkAll.ints {H : Hp} : ∀ ns : List Int, TkAll H (ns.map V.int) (ns.map PyData.int)
  | [] => .nil
  | n :: r => .cons (.int n) (TkAll.ints r)
theorem Tk.optV {H : Hp} (o : Option Int) : Tk H (Bk.optV o) (optD o) := by
  cases o with
  | none => exact .non
  | some i => exact .int i
/-! ### what is new -/
/-- the part of H' that H doesn't know -/
def newOf (H H' : Hp) : Hp := fun b => if H b = none then H' b else none
theorem newOf_same (H H' : Hp) : Same (newOf H H') H' := fun b o e => by
  unfold newOf at e
  split at e
  · exact e
  · cases e
theorem newOf_at {H H' : Hp} {b : Addr} {o : HO} (h : H b = none) (e : H' b = some o) : newOf H H' b = some o := by
  unfold newOf
  rw [if_pos h]
  exact e
theorem newOf_mono {H H1 H2 : Hp} (s : Same H1 H2) : Same (newOf H H1) (newOf H H2) := fun b o e => by
  unfold newOf at e ⊢
  split at e
  · rename_i h
    rw [if_pos h]
    exact s b o e
  · cases e
/-- the new part, without two places -/
def newBut (H : Hp) (l m : Addr) (H' : Hp) : Hp := fun b => if b = l ∨ b = m then none else newOf H H' b
theorem newBut_mono {H H1 H2 : Hp} {l m : Addr} (s : ∀ b o, b ≠ l → b ≠ m → H1 b = some o → H2 b = some o) : Same (newBut H l m H1) (newBut H l m H2) := fun b o e => by
  unfold newBut at e ⊢
  split at e
  · cases e
  · rename_i h
    rw [if_neg h]
    have h2 := newOf_same _ _ b o e
    unfold newOf at e ⊢
    split at e
    · rename_i h3
      rw [if_pos h3]
      exact s b o (fun z => h (.inl z)) (fun z => h (.inr z)) h2
    · cases e
theorem newBut_same (H : Hp) (l m : Addr) (H' : Hp) : Same (newBut H l m H') (newOf H H') := fun b o e => by
  unfold newBut at e
  split at e
  · cases e
  · exact e
theorem newBut_at {H H' : Hp} {l m b : Addr} {o : HO} (h : H b = none) (h1 : b ≠ l) (h2 : b ≠ m) (e : H' b = some o) : newBut H l m H' b = some o := by
  unfold newBut
  rw [if_neg (fun z => z.elim h1 h2)]
  exact newOf_at h e
theorem gUnl_r {K : PySem.W.Frag} {n : Nat} {t : TGs} {a : Addr} {σ : L2.St} {H : Hp} {Q : L2.St → Hp → Prop} : gUnl K n t (.ref a) σ H Q = ∃ xs, SqL K H a xs ∧ xs.length = n ∧ t xs σ H Q := propext ⟨fun ⟨b, xs, e, h⟩ => by cases e; exact ⟨xs, h⟩, fun ⟨xs, h⟩ => ⟨a, xs, rfl, h⟩⟩
def rInt1 : List V → Hp → VK → Prop := fun xs H Q => (∃ i, xs = [.int i] ∧ Q (.int i) H) ∨ ∃ k, xs = [.bl k] ∧ Q (.int (if k then 1 else 0)) H
theorem call_in1 {X : Cx} : CallR X (.type "int") rInt1 := call_int1
theorem rInt1_b {k : Bool} {H : Hp} {Q : VK} : rInt1 [.bl k] H Q = Q (.int (if k then 1 else 0)) H := by
  refine propext ⟨fun h => ?_, fun h => .inr ⟨k, rfl, h⟩⟩
  rcases h with ⟨i, e, _⟩ | ⟨j, e, q⟩
  · cases e
  · cases e
    exact q
theorem rInt1_i {i : Int} {H : Hp} {Q : VK} : rInt1 [.int i] H Q = Q (.int i) H := by
  refine propext ⟨fun h => ?_, fun h => .inl ⟨i, rfl, h⟩⟩
  rcases h with ⟨j, e, q⟩ | ⟨j, e, _⟩
  · cases e
    exact q
  · cases e
theorem rRep_r {l : Addr} {k : Int} {H : Hp} {Q : VK} : rRep (.ref l) (.int k) H Q = ∃ xs, H l = some (.lst xs) ∧ -(2 ^ 63) ≤ k ∧ k < 2 ^ 63 ∧ xs.length * k.toNat ≤ sizeLine ∧ ∀ p, H p = none → Q (.ref p) (upd H p (.lst (List.replicate k.toNat xs).flatten)) :=
  propext ⟨fun ⟨_, _, xs, e1, e2, h⟩ => by cases e1; cases e2; exact ⟨xs, h⟩, fun ⟨xs, h⟩ => ⟨l, k, xs, rfl, rfl, h⟩⟩
theorem seven {α : Type} {l : List α} (h : l.length = 7) : ∃ a b c d e f g, l = [a, b, c, d, e, f, g] := by
  match l, h with
  | [a, b, c, d, e, f, g], _ => exact ⟨a, b, c, d, e, f, g, rfl⟩
def nDays (u m : Nat) : Nat := max 2 (min u m) - 1
theorem newOf_to {H Hb H5 HF : Hp} (s : Same H Hb) (k : ∀ b o, Hb b = none → H5 b = some o → HF b = some o) : Same (newOf Hb H5) (newOf H HF) := fun b o e => by
  unfold newOf at e
  split at e
  · rename_i h
    exact newOf_at (s.free h) (k b o h e)
  · cases e
theorem bakB_mk {b : Bak} (h1 : 1 ≤ b.lights.length) (h2 : b.lights.length ≤ 40) (h3 : ∀ z ∈ b.lights, numD (.int z) = true) (h4 : boundB (optD b.bound) = true) (h5 : 1 ≤ b.goods.length) (h6 : b.goods.length ≤ 2)
    (h7 : ∀ g ∈ b.goods, g.days.length = b.lights.length ∧ lifeB (optD g.life) = true ∧ ∀ d ∈ g.days, dayB (dayD d) = true) : bakB (bakD b) = true := by
  have e1 : (b.lights.map PyData.int).all numD = true := by
    rw [List.all_eq_true]
    intro x hx
    obtain ⟨z, hz, rfl⟩ := List.mem_map.mp hx
    exact h3 z hz
  have e2 : (b.goods.map goodD).all (goodB (b.lights.map PyData.int).length) = true := by
    rw [List.all_eq_true]
    intro x hx
    obtain ⟨g, hg, rfl⟩ := List.mem_map.mp hx
    obtain ⟨g1, g2, g3⟩ := h7 g hg
    have e3 : (g.days.map dayD).all dayB = true := by
      rw [List.all_eq_true]
      intro y hy
      obtain ⟨d, hd, rfl⟩ := List.mem_map.mp hy
      exact g3 d hd
    simp only [goodD, goodB, e3, g2, List.length_map, g1, decide_true, Bool.and_self]
  rw [List.length_map] at e2
  simp only [bakD, bakB, lightsB, listB, e1, e2, h4, List.length_map, h1, h2, h5, h6, decide_true, Bool.and_self]
theorem ints_of : ∀ {xs : List V}, (∀ x ∈ xs, ∃ c : Int, x = .int c) → ∃ ns : List Int, xs = ns.map V.int
  | [], _ => ⟨[], rfl⟩
  | x :: r, h => by
    obtain ⟨c, rfl⟩ := h x List.mem_cons_self
    obtain ⟨ns, e⟩ := ints_of fun y hy => h y (List.mem_cons_of_mem _ hy)
    exact ⟨c :: ns, by rw [e]; rfl⟩
theorem cutV_upto (xs : List V) (n : Nat) : cutV xs none (some (n : Int)) = xs.take n := by
  unfold cutV
  rw [HT.sIx_nat, HT.sIx_none, List.drop_zero, Nat.sub_zero]
  by_cases h : n ≤ xs.length
  · rw [Nat.min_eq_left h]
  · rw [Nat.min_eq_right (by omega), List.take_of_length_le (Nat.le_refl _), List.take_of_length_le (by omega)]
theorem Tk.opt {H : Hp} {v : V} {o : Option Int} (h : Tk H v (optD o)) : v = Bk.optV o := (h.th (K := [])).opt
/-- a bakery in tracked objects, part by part -/
theorem Tk.bak {H : Hp} {x : V} {b : Bak} (h : Tk H x (bakD b)) : ∃ (a l g : Addr) (xl xg : List V), x = .ref a ∧ H a = some (.tup [.ref l, Bk.optV b.bound, .ref g]) ∧ H l = some (.lst xl) ∧ TkAll H xl (b.lights.map PyData.int) ∧ H g = some (.lst xg) ∧ TkAll H xg (b.goods.map goodD) := by
  cases h with
  | tup ht hta =>
  cases hta with
  | cons t1 hta => cases hta with
  | cons t2 hta => cases hta with
  | cons t3 hta =>
  cases hta
  cases t1 with
  | lst h1 h2 =>
  cases t3 with
  | lst h3 h4 =>
  rw [t2.opt] at ht
  exact ⟨_, _, _, _, _, rfl, ht, h1, h2, h3, h4⟩
theorem Tk.good {H : Hp} {x : V} {g : Good} (h : Tk H x (goodD g)) : ∃ t a xs, x = .ref t ∧ H t = some (.tup [.ref a, Bk.optV g.life]) ∧ H a = some (.lst xs) ∧ TkAll H xs (g.days.map dayD) := by
  cases h with
  | tup ht hta =>
  cases hta with
  | cons t1 hta => cases hta with
  | cons t2 hta =>
  cases hta
  cases t1 with
  | lst h1 h2 =>
  rw [t2.opt] at ht
  exact ⟨_, _, _, rfl, ht, h1, h2⟩
/-! ### a comprehension whose items are new things -/
/-! ### while, by the number of its turns -/
def WI (n : Nat) (Pv : Nat → L2.St → Hp → Prop) (m : Nat) (σ : L2.St) (H : Hp) : Prop := ∃ i, m = n - i ∧ i ≤ n ∧ Pv i σ H
def WStep (n : Nat) (Pv : Nat → L2.St → Hp → Prop) (i : Nat) (tb : TS) (D : Ends) (σ : L2.St) (H1 : Hp) : Prop := ∃ N : L2.St → Hp → Prop, (∀ σ' H', N σ' H' → ∃ m', m' < n - i ∧ WI n Pv m' σ' H') ∧ tb { D with nx := N, ct := N, bk := D.nx } σ H1
theorem while_by {c : TT} {tb : TS} {D : Ends} {σ : L2.St} {H : Hp} (n : Nat) (Pv : Nat → L2.St → Hp → Prop) (h0 : Pv 0 σ H) (hs : ∀ i σ H, i ≤ n → Pv i σ H → c σ H fun b H1 => if b = true then WStep n Pv i tb D σ H1 else D.nx σ H1) : tWhile c tb D σ H :=
  ⟨WI n Pv, ⟨n, 0, rfl, Nat.zero_le _, h0⟩, fun m σ H ⟨i, e, hi, p⟩ => by subst e; exact hs i σ H hi p⟩
theorem wstep {n i : Nat} {Pv : Nat → L2.St → Hp → Prop} {tb : TS} {D : Ends} {σ : L2.St} {H1 : Hp} (hi : i < n) (h : tb { D with nx := Pv (i + 1), ct := Pv (i + 1), bk := D.nx } σ H1) : WStep n Pv i tb D σ H1 :=
  ⟨Pv (i + 1), fun _ _ p => ⟨n - (i + 1), by omega, i + 1, rfl, by omega, p⟩, h⟩
end Bk

namespace Bk
open PySem PySem.Spec PyProof.Rows L2
/-! ### defs that are called where no text of a container is being written: repr may be asked there -/
/-- as a def's promise, but only around calls whose guards are none -/
def RunG (P : Program) (w : World) (K : PySem.W.Frag) (mg : Str → Option Value) (base : Heap) (k : Nat) (f : Addr) (fd : FuncData) (ps : List Str) (sp : Sp) : Prop :=
  (∀ vs H Q E, sp vs H Q E → vs.length = ps.length) ∧
  ∀ (A : Around) (outer : List Env) (s : Shared) (H : Hp) (args : Args) (us : List Value) (vs : List V) (Q : VK) (E : XK), A.guards = some [] → Room k A → Env0 P w K mg base A outer s H → BindsTo s fd args (ps.zip us) → Vals vs us → sp vs H Q E →
    codeAny (model P w) A (.call (.ref f) args) (CR CX0 outer P w H s Q E) s
theorem runG_of {P : Program} {w : World} {K : PySem.W.Frag} {mg : Str → Option Value} {base : Heap} {x qual : Str} {st : Stmt} {f : Addr} {fd : FuncData} {N ps : List Str} {k : Nat} {sp : Sp} (F : Fun K x qual st f fd) (S : FnScope N ps (defScope st))
    (len : ∀ vs H Q E, sp vs H Q E → vs.length = ps.length)
    (body : ∀ (cdv : Value) (A : Around) (outer : List Env) (s : Shared) (H : Hp) (vs : List V) (Q : VK) (E : XK), A.guards = some [] → Room k (A.deeper (envOfC qual (defScope st) s.heap.objs.size f cdv)) → sp vs H Q E →
      ∃ t, PSs (cxOf CX0 P w K mg base N qual (defScope st) f cdv A outer s H E).nox (defBody st) t ∧ t { nx := fun _ H' => Q .non H', rt := Q } (L2.start N vs) H) : RunG P w K mg base (k + 1) f fd ps sp := by
  obtain ⟨oc, od, kV, doc, pm, an, cdv, ct, osl, rfl, lk, hcd⟩ := F.ex
  refine ⟨len, fun A outer s H args us vs Q E hA hr e0 hb r hs => ?_⟩
  have up : ∀ b o, base.get? b = some o → s.heap.get? b = some o := fun b o e => (e0.bs b o e).1
  have kin : K.In s.heap := e0.mod.kin.keeps up
  have places : ∀ y ∈ ps.zip us, (defScope st).names.lookup y.1 = some .local ∨ ((defScope st).names.lookup y.1 = some .cell ∧ ((cellsFrom (s.heap.objs.size + 1) (defScope st).names []).lookup y.1).isSome = true) := by
    rintro ⟨n, v⟩ hy
    exact (S.par n (List.of_mem_zip hy).1).elim .inl fun q => .inr ⟨q, PySem.W.cellsFrom_some _ _ _ (.inl q)⟩
  refine codeAny_call_function hr.depth (kin _ _ lk) rfl S.co S.gen rfl (PySem.W.codeRec_of kin hcd) (hb _ _ _ _ (wpAny_newFunctionEnv_cells S.kind places fun env he s1 z => ?_))
  subst he
  refine ⟨(e0.mod.nolimit.keeps up).keeps z.toInCall.keep, codeAny_func ?_⟩
  obtain ⟨t, ht, ht2⟩ := body cdv A outer s H vs Q E hA (hr.deeper _) hs
  have J := inv_start (CX := CX0) (E := E) S hr.hd e0 (len _ _ _ _ hs) r z
  refine wpAny_mono (ht.nox.run [] s1 _ H _ J ht2) (fun fl s' g => ?_) fun _ _ g => g
  cases fl with
  | next =>
    obtain ⟨_, H', J', q⟩ := g
    exact ⟨.non, H', J'.os, J'.bare, J'.base, J'.hok, rfl, q⟩
  | ret u =>
    obtain ⟨v, _, H', J', rv, q⟩ := g
    exact ⟨v, H', J'.os, J'.bare, J'.base, J'.hok, rv, q⟩
  | brk =>
    obtain ⟨_, _, _, q⟩ := g
    exact q.elim
  | cont =>
    obtain ⟨_, _, _, q⟩ := g
    exact q.elim
/-! ### repr of data without dicts -/
mutual
theorem Th.dp {K : PySem.W.Frag} {H : Hp} : ∀ {v : V} {d : PyData}, Th K H v d → d.hasDict = false → Dp K H v d
  | _, _, .non, _ => .non
  | _, _, .bl b, _ => .bl b
  | _, _, .int i, _ => .int i
  | _, _, .str x, _ => .str x
  | _, _, .lst h t, n => .lst h (ThAll.dp t (by simpa only [PyData.hasDict] using n))
  | _, _, .tup h t, n => .tup h (ThAll.dp t (by simpa only [PyData.hasDict] using n))
  | _, _, .dic _, n => by simp only [PyData.hasDict] at n; cases n
theorem ThAll.dp {K : PySem.W.Frag} {H : Hp} : ∀ {vs : List V} {ds : List PyData}, ThAll K H vs ds → PyData.hasDictAll ds = false → DpAll K H vs ds
  | _, _, .nil, _ => .nil
  | _, _, .cons h t, n => by
    simp only [PyData.hasDictAll, Bool.or_eq_false_iff] at n
    exact .cons (Th.dp h n.1) (ThAll.dp t n.2)
end
/-- what may be shown: ints of few figures, not too deep, not too long -/
structure Shows (d : PyData) : Prop where
  nodict : d.hasDict = false
  able : d.showable = true
  deep : d.depth ≤ 60
  short : d.shown.length ≤ sizeLine
def rRepr (K : PySem.W.Frag) : List V → Hp → VK → Prop := fun xs H Q => ∃ x d, xs = [x] ∧ Th K H x d ∧ Shows d ∧ Q (.str d.shown) H
theorem rRepr_r {K : PySem.W.Frag} {x : V} {H : Hp} {Q : VK} : rRepr K [x] H Q = ∃ d, Th K H x d ∧ Shows d ∧ Q (.str d.shown) H := propext ⟨fun ⟨y, d, e, h⟩ => by cases e; exact ⟨d, h⟩, fun ⟨d, h⟩ => ⟨x, d, rfl, h⟩⟩
/-! ### data of small numbers -/
mutual
/-- no dict, no text, ints below 10 ** 12 -/
def smB : PyData → Bool
  | .none | .bool _ => true
  | .int i => decide (i.natAbs < 10 ^ 12)
  | .str _ | .dict _ => false
  | .list xs | .tuple xs => smAll xs
def smAll : List PyData → Bool
  | [] => true
  | x :: xs => smB x && smAll xs
end
theorem log12 {n : Nat} (h : n < 10 ^ 12) : n.log2 < 40 := by
  by_cases h0 : n = 0
  · subst h0
    decide
  · exact (Nat.log2_lt h0).mpr (Nat.lt_of_lt_of_le h (by decide))
mutual
theorem sm_facts : ∀ d : PyData, smB d = true → d.hasDict = false ∧ d.showable = true ∧ d.leavesShort 13 = true
  | .none, _ => by simp only [PyData.hasDict, PyData.showable, PyData.leavesShort, and_self]
  | .bool _, _ => by simp only [PyData.hasDict, PyData.showable, PyData.leavesShort, and_self]
  | .int i, h => by
    have h : i.natAbs < 10 ^ 12 := by simpa only [smB, decide_eq_true_eq] using h
    have h1 := log12 h
    have h2 := PyData.shown_int_le h
    simp only [PyData.hasDict, PyData.showable, PyData.leavesShort, decide_eq_true_eq, true_and]
    exact ⟨by omega, h2⟩
  | .str _, h => by simp only [smB] at h; cases h
  | .dict _, h => by simp only [smB] at h; cases h
  | .list xs, h => by
    have h1 := smAll_facts xs (by simpa only [smB] using h)
    simpa only [PyData.hasDict, PyData.showable, PyData.leavesShort] using h1
  | .tuple xs, h => by
    have h1 := smAll_facts xs (by simpa only [smB] using h)
    simpa only [PyData.hasDict, PyData.showable, PyData.leavesShort] using h1
theorem smAll_facts : ∀ ds : List PyData, smAll ds = true → PyData.hasDictAll ds = false ∧ PyData.showableAll ds = true ∧ PyData.leavesShortAll 13 ds = true
  | [], _ => by simp only [PyData.hasDictAll, PyData.showableAll, PyData.leavesShortAll, and_self]
  | x :: xs, h => by
    have h : smB x = true ∧ smAll xs = true := by simpa only [smAll, Bool.and_eq_true] using h
    obtain ⟨a1, a2, a3⟩ := sm_facts x h.1
    obtain ⟨b1, b2, b3⟩ := smAll_facts xs h.2
    simp only [PyData.hasDictAll, PyData.showableAll, PyData.leavesShortAll, a1, a2, a3, b1, b2, b3, Bool.or_self, Bool.and_self, and_self]
end
theorem depthAll_le {c : Nat} {ds : List PyData} (h : ∀ d ∈ ds, d.depth ≤ c) : PyData.depthAll ds ≤ c := by
  induction ds with
  | nil => simp only [PyData.depthAll, Nat.zero_le]
  | cons x r ih =>
    have h1 := h x List.mem_cons_self
    have h2 := ih fun d hd => h d (List.mem_cons_of_mem _ hd)
    simp only [PyData.depthAll]
    omega
theorem numD_sm {i : Int} (h : numD (.int i) = true) : i.natAbs < 10 ^ 12 := by
  simp only [numD, Bool.and_eq_true, decide_eq_true_eq] at h
  have : i.natAbs ≤ 1000000000 := by omega
  exact Nat.lt_of_le_of_lt this (by decide)
theorem bak_parts {b : Bak} (h : bakB (bakD b) = true) : (1 ≤ b.lights.length ∧ b.lights.length ≤ 40) ∧ (∀ z ∈ b.lights, numD (.int z) = true) ∧ boundB (optD b.bound) = true ∧ (1 ≤ b.goods.length ∧ b.goods.length ≤ 2) ∧
    ∀ g ∈ b.goods, g.days.length = b.lights.length ∧ lifeB (optD g.life) = true ∧ ∀ d ∈ g.days, dayB (dayD d) = true := by
  obtain ⟨ls, bo, gs, e, h1, h2, h3, h4⟩ := bakB_inv h
  unfold bakD at e
  injection e with e
  injection e with e1 e
  injection e with e2 e
  injection e with e3 e
  injection e1 with e1
  injection e3 with e3
  subst e1 e2 e3
  have l1 := Bool.and_eq_true_iff.mp h1
  have l2 := Bool.and_eq_true_iff.mp l1.1
  have l3 := Bool.and_eq_true_iff.mp h3
  have a1 := of_decide_eq_true l2.1
  have a2 := of_decide_eq_true l2.2
  have a3 := of_decide_eq_true l3.1
  have a4 := of_decide_eq_true l3.2
  rw [List.length_map] at a1 a2 a3 a4
  refine ⟨⟨a1, a2⟩, fun z hz => List.all_eq_true.mp l1.2 _ (List.mem_map.mpr ⟨z, hz, rfl⟩), h2, ⟨a3, a4⟩, fun g hg => ?_⟩
  have h5 := List.all_eq_true.mp h4 (goodD g) (List.mem_map.mpr ⟨g, hg, rfl⟩)
  obtain ⟨ds, l, e4, e5, e6, e7⟩ := goodB_inv h5
  unfold goodD at e4
  injection e4 with e4
  injection e4 with e4 e8
  injection e8 with e8 _
  injection e4 with e4
  subst e4 e8
  rw [List.length_map, List.length_map] at e5
  exact ⟨e5, e6, fun d hd => List.all_eq_true.mp e7 _ (List.mem_map.mpr ⟨d, hd, rfl⟩)⟩
end Bk

namespace Bk
open PySem PySem.Spec PyProof.Rows L2
/-! ### prices of loaves that cross -/
theorem sumO_append : ∀ {l m : List (Option Int)} {z : Int}, sumO (l ++ m) = some z → ∃ x y, sumO l = some x ∧ sumO m = some y ∧ x + y = z
  | [], m, z, h => ⟨0, z, rfl, h, Int.zero_add z⟩
  | none :: l, m, z, h => by cases h
  | some a :: l, m, z, h => by
    have h : (sumO (l ++ m)).map (a + ·) = some z := h
    cases e : sumO (l ++ m) with
    | none => rw [e] at h; cases h
    | some b =>
      rw [e] at h
      have h : a + b = z := Option.some.inj h
      obtain ⟨x, y, h1, h2, h3⟩ := sumO_append e
      refine ⟨a + x, y, ?_, h2, by omega⟩
      show (sumO l).map (a + ·) = some (a + x)
      rw [h1]
      rfl
theorem sumO_nonneg : ∀ {l : List (Option Int)} {z : Int}, (∀ o ∈ l, ∀ i, o = some i → 0 ≤ i) → sumO l = some z → 0 ≤ z
  | [], z, _, h => by
    have h : (0 : Int) = z := Option.some.inj h
    omega
  | none :: l, z, _, h => by cases h
  | some a :: l, z, hn, h => by
    have h : (sumO l).map (a + ·) = some z := h
    cases e : sumO l with
    | none => rw [e] at h; cases h
    | some b =>
      rw [e] at h
      have h : a + b = z := Option.some.inj h
      have h1 := sumO_nonneg (fun o ho => hn o (List.mem_cons_of_mem _ ho)) e
      have h2 := hn _ List.mem_cons_self a rfl
      omega
theorem seg_split {α : Type} (l : List α) {i j k : Nat} (h1 : i ≤ j) (h2 : j ≤ k) : (l.drop i).take (k - i) = (l.drop i).take (j - i) ++ (l.drop j).take (k - j) := by
  have e : k - i = (j - i) + (k - j) := by omega
  rw [e, List.take_add, List.drop_drop]
  congr 3
  omega
theorem sum_nonneg' : ∀ {l : List Int}, (∀ x ∈ l, 0 ≤ x) → 0 ≤ l.sum
  | [], _ => by decide
  | a :: r, h => by
    rw [List.sum_cons]
    have h1 := h a List.mem_cons_self
    have h2 := sum_nonneg' fun x hx => h x (List.mem_cons_of_mem _ hx)
    omega
theorem sum_append' : ∀ (l m : List Int), (l ++ m).sum = l.sum + m.sum
  | [], m => by rw [List.nil_append, List.sum_nil]; omega
  | a :: r, m => by rw [List.cons_append, List.sum_cons, List.sum_cons, sum_append' r m]; omega
theorem keepsL_split (ds : List Day) {i j k : Nat} (h1 : i ≤ j) (h2 : j ≤ k) : keepsL ds i k = keepsL ds i j + keepsL ds j k := by
  unfold keepsL
  rw [seg_split ds h1 h2, List.map_append, sum_append']
theorem finesL_split {ds : List Day} {i j k : Nat} {z : Int} (h1 : i ≤ j) (h2 : j ≤ k) (h : finesL ds i k = some z) : ∃ x y, finesL ds i j = some x ∧ finesL ds j k = some y ∧ x + y = z := by
  unfold finesL at h
  rw [seg_split ds h1 h2, List.map_append] at h
  exact sumO_append h
/-- keeps and fines are no less than 0 -/
structure NonNeg (ds : List Day) : Prop where
  keep : ∀ d ∈ ds, 0 ≤ d.keep
  fine : ∀ d ∈ ds, ∀ i, d.fine = some i → 0 ≤ i
theorem seg_mem {α : Type} {l : List α} {i n : Nat} {x : α} (h : x ∈ (l.drop i).take n) : x ∈ l := List.mem_of_mem_drop (List.mem_of_mem_take h)
theorem keepsL_nonneg {ds : List Day} (N : NonNeg ds) (i j : Nat) : 0 ≤ keepsL ds i j := sum_nonneg' fun x hx => by
  obtain ⟨d, hd, rfl⟩ := List.mem_map.mp hx
  exact N.keep d (seg_mem hd)
theorem finesL_nonneg {ds : List Day} (N : NonNeg ds) {i j : Nat} {z : Int} (h : finesL ds i j = some z) : 0 ≤ z := sumO_nonneg (fun o ho i e => by
  obtain ⟨d, hd, rfl⟩ := List.mem_map.mp ho
  exact N.fine d (seg_mem hd) i e) h
/-- what comes to the loaf price -/
def extP (g : Good) (j k : Nat) : Option Int := if k < j then finesL g.days k j else match g.life with
  | none => some (keepsL g.days j k)
  | some l => if l < (k : Int) - (j : Int) then none else some (keepsL g.days j k)
theorem loafP_ext {g : Good} {j k : Nat} {d : Day} (hd : g.days[j]? = some d) : loafP g j k = (extP g j k).map (d.loaf + ·) := by
  unfold loafP extP
  rw [hd]
  dsimp only
  by_cases h : k < j
  · rw [if_pos h, if_pos h]
  · rw [if_neg h, if_neg h]
    cases g.life with
    | none => rfl
    | some l =>
      dsimp only
      by_cases h2 : l < (k : Int) - (j : Int)
      · rw [if_pos h2, if_pos h2]
        rfl
      · rw [if_neg h2, if_neg h2]
        rfl
theorem ext_keep {g : Good} {j k : Nat} (h : j ≤ k) {z : Int} : extP g j k = some z ↔ (∀ l, g.life = some l → (k : Int) - (j : Int) ≤ l) ∧ keepsL g.days j k = z := by
  unfold extP
  rw [if_neg (by omega)]
  cases hl : g.life with
  | none => exact ⟨fun e => ⟨fun l h => (by cases h), Option.some.inj e⟩, fun e => by rw [e.2]⟩
  | some l =>
    dsimp only
    by_cases h2 : l < (k : Int) - (j : Int)
    · rw [if_pos h2]
      exact ⟨fun e => (by cases e), fun e => by have := e.1 l rfl; omega⟩
    · rw [if_neg h2]
      exact ⟨fun e => ⟨fun l' h' => (by cases h'; omega), Option.some.inj e⟩, fun e => by rw [e.2]⟩
theorem ext_fine {g : Good} {j k : Nat} (h : k < j) {z : Int} : extP g j k = some z ↔ finesL g.days k j = some z := by
  unfold extP
  rw [if_pos h]
theorem ext_cross {g : Good} (N : NonNeg g.days) {a c e l : Nat} (hac : a < c) (hel : e < l) {x y : Int} (h1 : extP g a l = some x) (h2 : extP g c e = some y) : ∃ z t, extP g a e = some z ∧ extP g c l = some t ∧ z + t ≤ x + y := by
  by_cases hal : a ≤ l
  · obtain ⟨hlf, hk1⟩ := (ext_keep hal).mp h1
    by_cases hce : c ≤ e
    · -- all ahead
      obtain ⟨_, hk2⟩ := (ext_keep hce).mp h2
      refine ⟨_, _, (ext_keep (by omega)).mpr ⟨fun m hm => by have := hlf m hm; omega, rfl⟩, (ext_keep (by omega)).mpr ⟨fun m hm => by have := hlf m hm; omega, rfl⟩, ?_⟩
      have e1 := keepsL_split g.days (show a ≤ c by omega) hce
      have e2 := keepsL_split g.days (show a ≤ c by omega) (show c ≤ l by omega)
      omega
    · have hf := (ext_fine (show e < c by omega)).mp h2
      by_cases hae : a ≤ e
      · by_cases hcl : c ≤ l
        · refine ⟨_, _, (ext_keep hae).mpr ⟨fun m hm => by have := hlf m hm; omega, rfl⟩, (ext_keep hcl).mpr ⟨fun m hm => by have := hlf m hm; omega, rfl⟩, ?_⟩
          have e1 := keepsL_split g.days hae (show e ≤ l by omega)
          have e2 := keepsL_split g.days (show e ≤ c by omega) hcl
          have n1 := keepsL_nonneg N e c
          have n2 := finesL_nonneg N hf
          omega
        · obtain ⟨u, v, f1, f2, f3⟩ := finesL_split (show e ≤ l by omega) (show l ≤ c by omega) hf
          refine ⟨_, _, (ext_keep hae).mpr ⟨fun m hm => by have := hlf m hm; omega, rfl⟩, (ext_fine (by omega)).mpr f2, ?_⟩
          have e1 := keepsL_split g.days hae (show e ≤ l by omega)
          have n1 := keepsL_nonneg N e l
          have n2 := finesL_nonneg N f1
          omega
      · obtain ⟨u, v, f1, f2, f3⟩ := finesL_split (show e ≤ a by omega) (show a ≤ c by omega) hf
        by_cases hcl : c ≤ l
        · refine ⟨_, _, (ext_fine (by omega)).mpr f1, (ext_keep hcl).mpr ⟨fun m hm => by have := hlf m hm; omega, rfl⟩, ?_⟩
          have e1 := keepsL_split g.days (show a ≤ c by omega) hcl
          have n1 := keepsL_nonneg N a c
          have n2 := finesL_nonneg N f2
          omega
        · obtain ⟨u2, v2, k1, k2, k3⟩ := finesL_split (show e ≤ l by omega) (show l ≤ c by omega) hf
          obtain ⟨u3, v3, m1, m2, m3⟩ := finesL_split (show e ≤ a by omega) hal k1
          have e3 : u = u3 := Option.some.inj (f1.symm.trans m1)
          refine ⟨_, _, (ext_fine (by omega)).mpr f1, (ext_fine (by omega)).mpr k2, ?_⟩
          have n1 := keepsL_nonneg N a l
          have n2 := finesL_nonneg N m2
          omega
  · have hf1 := (ext_fine (show l < a by omega)).mp h1
    have hf2 := (ext_fine (show e < c by omega)).mp h2
    obtain ⟨u, v, f1, f2, f3⟩ := finesL_split (show e ≤ a by omega) (show a ≤ c by omega) hf2
    obtain ⟨u2, v2, k1, k2, k3⟩ := finesL_split (show e ≤ l by omega) (show l ≤ c by omega) hf2
    obtain ⟨u3, v3, m1, m2, m3⟩ := finesL_split (show e ≤ l by omega) (show l ≤ a by omega) f1
    refine ⟨_, _, (ext_fine (by omega)).mpr f1, (ext_fine (by omega)).mpr k2, ?_⟩
    have e1 : u2 = u3 := Option.some.inj (k1.symm.trans m1)
    have e2 : v3 = x := Option.some.inj (m2.symm.trans hf1)
    omega
theorem loaf_cross {g : Good} (N : NonNeg g.days) {a c e l : Nat} (hac : a < c) (hel : e < l) (hc : c < g.days.length) {x y : Int} (h1 : loafP g a l = some x) (h2 : loafP g c e = some y) : ∃ z t, loafP g a e = some z ∧ loafP g c l = some t ∧ z + t ≤ x + y := by
  have da : g.days[a]? = some (g.days[a]'(by omega)) := List.getElem?_eq_getElem (by omega)
  have dc : g.days[c]? = some g.days[c] := List.getElem?_eq_getElem hc
  rw [loafP_ext da] at h1
  rw [loafP_ext dc] at h2
  cases e1 : extP g a l with
  | none => rw [e1] at h1; cases h1
  | some x' =>
    cases e2 : extP g c e with
    | none => rw [e2] at h2; cases h2
    | some y' =>
      rw [e1] at h1
      rw [e2] at h2
      have h1 := Option.some.inj h1
      have h2 := Option.some.inj h2
      obtain ⟨z, t, q1, q2, q3⟩ := ext_cross N hac hel e1 e2
      refine ⟨_, _, by rw [loafP_ext da, q1]; rfl, by rw [loafP_ext dc, q2]; rfl, ?_⟩
      dsimp only at h1 h2 ⊢
      omega
theorem rNin_r {K : PySem.W.Frag} {x : V} {p : Addr} {H : Hp} {Q : VK} : rIn K true x (.ref p) H Q = ∃ xs, (SqL K H p xs ∨ SqT K H p xs) ∧ flatV x = true ∧ xs.all flatV = true ∧ Q (.bl (!inV x xs)) H :=
  propext ⟨fun ⟨_, xs, e, h⟩ => by cases e; exact ⟨xs, h⟩, fun ⟨xs, h⟩ => ⟨p, xs, rfl, h⟩⟩
end Bk

namespace Bk
open PySem PySem.Spec PyProof.Rows L2
/-! ### ranges as values -/
def rRg1 : List V → Hp → VK → Prop := fun vs H Q => ∃ j, vs = [V.int j] ∧ ∀ p, H p = none → Q (.ref p) (upd H p (.rng 0 j))
def rRg2 : List V → Hp → VK → Prop := fun vs H Q => ∃ i j, vs = [V.int i, V.int j] ∧ ∀ p, H p = none → Q (.ref p) (upd H p (.rng i j))
theorem rRg1_i {j : Int} {H : Hp} {Q : VK} : rRg1 [.int j] H Q = ∀ p, H p = none → Q (.ref p) (upd H p (.rng 0 j)) := propext ⟨fun ⟨_, e, h⟩ => by cases e; exact h, fun h => ⟨j, rfl, h⟩⟩
theorem rRg2_i {i j : Int} {H : Hp} {Q : VK} : rRg2 [.int i, .int j] H Q = ∀ p, H p = none → Q (.ref p) (upd H p (.rng i j)) := propext ⟨fun ⟨_, _, e, h⟩ => by cases e; exact h, fun h => ⟨i, j, rfl, h⟩⟩
def rInr : R2 := fun x y H Q => ∃ i a lo hi, x = V.int i ∧ y = V.ref a ∧ H a = some (.rng lo hi) ∧ Q (.bl (decide (lo ≤ i ∧ i < hi))) H
theorem rInr_r {i : Int} {a : Addr} {H : Hp} {Q : VK} : rInr (.int i) (.ref a) H Q = ∃ lo hi, H a = some (.rng lo hi) ∧ Q (.bl (decide (lo ≤ i ∧ i < hi))) H := propext ⟨fun ⟨_, _, lo, hi, e1, e2, h⟩ => by cases e1; cases e2; exact ⟨lo, hi, h⟩, fun ⟨lo, hi, h⟩ => ⟨i, a, lo, hi, rfl, rfl, h⟩⟩
theorem ipI_ii {f : Int → Int → Int} {i j : Int} {H : Hp} {Q : VK} : ipI f (.int i) (.int j) H Q = Q (.int (f i j)) H := propext ⟨fun ⟨_, _, e1, e2, h⟩ => by cases e1; cases e2; exact h, fun h => ⟨i, j, rfl, rfl, h⟩⟩
theorem depth_ints : ∀ ns : List Int, PyData.depthAll (ns.map PyData.int) = 0
  | [] => by simp only [List.map, PyData.depthAll]
  | n :: r => by simp only [List.map, PyData.depthAll, PyData.depth, depth_ints r]; decide
/-! ### prices of stretches, and reaches -/
def wantP (g : Good) (j k : Nat) : Option Int := match g.days[k]? with
  | none => none
  | some d => if d.want = 0 then some 0 else (loafP g j k).map (d.want * ·)
def stretchP (g : Good) (j f n : Nat) : Option Int := sumO ((List.range n).map fun i => wantP g j (f + i))
theorem sumO_snoc (l : List (Option Int)) (o : Option Int) : sumO (l ++ [o]) = match sumO l, o with
    | some x, some y => some (x + y)
    | _, _ => none := by
  induction l with
  | nil =>
    cases o with
    | none => rfl
    | some y =>
      show some (y + 0) = some (0 + y)
      rw [Int.add_zero, Int.zero_add]
  | cons a r ih =>
    cases a with
    | none => rfl
    | some a =>
      show (sumO (r ++ [o])).map (a + ·) = _
      rw [ih]
      show _ = match (sumO r).map (a + ·), o with
        | some x, some y => some (x + y)
        | _, _ => none
      cases sumO r with
      | none => rfl
      | some x =>
        cases o with
        | none => rfl
        | some y =>
          show some (a + (x + y)) = some (a + x + y)
          rw [Int.add_assoc]
def reachF (g : Good) (k : Nat) : Int := match g.life with
  | none => 0
  | some l => if (k : Int) - l > 0 then (k : Int) - l else 0
/-- last is the last day of the reach -/
structure ReachL (g : Good) (k last : Nat) : Prop where
  le : k ≤ last
  lt : last < g.days.length
  fine : ∃ z, finesL g.days k last = some z
  stop : last + 1 < g.days.length → ∃ d, g.days[last]? = some d ∧ d.fine = none
theorem reach_iff {g : Good} {k last : Nat} (R : ReachL g k last) (hl : ∀ l, g.life = some l → 0 ≤ l) {j : Nat} (hj : j < g.days.length) : loafP g j k ≠ none ↔ reachF g k ≤ (j : Int) ∧ j ≤ last := by
  have dj : g.days[j]? = some g.days[j] := List.getElem?_eq_getElem hj
  rw [loafP_ext dj]
  have e0 : (extP g j k).map (g.days[j].loaf + ·) ≠ none ↔ ∃ z, extP g j k = some z := by
    cases extP g j k with
    | none => exact ⟨fun h => absurd rfl h, fun ⟨z, h⟩ => by cases h⟩
    | some z => exact ⟨fun _ => ⟨z, rfl⟩, fun _ h => by cases h⟩
  rw [e0]
  by_cases hkj : k < j
  · have hF : reachF g k ≤ (j : Int) := by
      unfold reachF
      cases e : g.life with
      | none =>
        dsimp only
        omega
      | some l =>
        have := hl l e
        dsimp only
        split <;> omega
    constructor
    · rintro ⟨z, h⟩
      refine ⟨hF, ?_⟩
      by_cases hle : j ≤ last
      · exact hle
      · exfalso
        obtain ⟨d, hd, hn⟩ := R.stop (by omega)
        have hf := (ext_fine hkj).mp h
        obtain ⟨u, v, _, f2, _⟩ := finesL_split R.le (show last ≤ j by omega) hf
        obtain ⟨u2, v2, f3, _, _⟩ := finesL_split (show last ≤ last + 1 by omega) (show last + 1 ≤ j by omega) f2
        unfold finesL at f3
        rw [show last + 1 - last = 1 by omega] at f3
        obtain ⟨hlt, e⟩ := List.getElem?_eq_some_iff.mp hd
        rw [List.drop_eq_getElem_cons hlt, e] at f3
        have f3 : sumO [d.fine] = some u2 := f3
        rw [hn] at f3
        cases f3
    · rintro ⟨_, hle⟩
      obtain ⟨z, hz⟩ := R.fine
      obtain ⟨u, v, f1, _, _⟩ := finesL_split (show k ≤ j by omega) hle hz
      exact ⟨u, (ext_fine hkj).mpr f1⟩
  · have hjl : j ≤ last := by have := R.le; omega
    constructor
    · rintro ⟨z, h⟩
      refine ⟨?_, hjl⟩
      obtain ⟨h1, _⟩ := (ext_keep (show j ≤ k by omega)).mp h
      unfold reachF
      cases e : g.life with
      | none =>
        dsimp only
        omega
      | some l =>
        have := h1 l e
        dsimp only
        split <;> omega
    · rintro ⟨h1, _⟩
      refine ⟨_, (ext_keep (show j ≤ k by omega)).mpr ⟨fun l e => ?_, rfl⟩⟩
      unfold reachF at h1
      rw [e] at h1
      have := hl l e
      dsimp only at h1
      split at h1 <;> omega
theorem sumO_join' : ∀ {l m : List (Option Int)} {x y : Int}, sumO l = some x → sumO m = some y → sumO (l ++ m) = some (x + y)
  | [], m, x, y, h1, h2 => by
    have h1 : (0 : Int) = x := Option.some.inj h1
    rw [← h1, Int.zero_add]
    exact h2
  | none :: l, m, x, y, h1, h2 => by cases h1
  | some a :: l, m, x, y, h1, h2 => by
    have h1 : (sumO l).map (a + ·) = some x := h1
    cases e : sumO l with
    | none => rw [e] at h1; cases h1
    | some b =>
      rw [e] at h1
      have h1 : a + b = x := Option.some.inj h1
      show (sumO (l ++ m)).map (a + ·) = some (x + y)
      rw [sumO_join' e h2]
      show some (a + (b + y)) = some (x + y)
      rw [← h1, Int.add_assoc]
theorem filter_range {f l : Nat} (p : Nat → Bool) (hp : ∀ j, p j = (decide (f ≤ j) && decide (j ≤ l))) : ∀ n : Nat, (List.range n).filter p = (List.range (min n (l + 1) - f)).map (f + ·)
  | 0 => by rw [show min 0 (l + 1) - f = 0 by omega]; rfl
  | n + 1 => by
    rw [List.range_succ, List.filter_append, filter_range p hp n]
    by_cases h : f ≤ n ∧ n ≤ l
    · have e : p n = true := by rw [hp, Bool.and_eq_true, decide_eq_true_eq, decide_eq_true_eq]; exact h
      rw [List.filter_cons_of_pos e, List.filter_nil, show min (n + 1) (l + 1) - f = (min n (l + 1) - f) + 1 by omega, List.range_succ, List.map_append]
      congr 1
      show [n] = [f + (min n (l + 1) - f)]
      congr 1
      omega
    · have e : ¬ p n = true := by rw [hp, Bool.and_eq_true, decide_eq_true_eq, decide_eq_true_eq]; exact h
      rw [List.filter_cons_of_neg e, List.filter_nil, List.append_nil, show min (n + 1) (l + 1) - f = min n (l + 1) - f by omega]
theorem reachF_nonneg (g : Good) (k : Nat) : 0 ≤ reachF g k := by
  unfold reachF
  cases g.life with
  | none => exact Int.le_refl _
  | some l =>
    dsimp only
    split <;> omega
theorem reachF_le {g : Good} {k : Nat} (hl : ∀ l, g.life = some l → 0 ≤ l) : reachF g k ≤ (k : Int) := by
  unfold reachF
  cases e : g.life with
  | none =>
    dsimp only
    omega
  | some l =>
    have := hl l e
    dsimp only
    split <;> omega
theorem life_nonneg {g : Good} (h : lifeB (optD g.life) = true) : ∀ l, g.life = some l → 0 ≤ l := fun l e => by
  rw [e] at h
  simp only [optD, lifeB, Bool.and_eq_true, decide_eq_true_eq] at h
  exact h.1
end Bk

namespace Bk
open PySem PySem.Spec PyProof.Rows L2
/-! ### the row of least costs: what it is -/
/-- from the m first days' end back: the least of row f + cost + the prices from f to m -/
def lbo (row : Nat → Int) (w : Nat → Option Int) : Nat → Int → Option Int → Option Int
  | 0, _, least => least
  | m + 1, cost, least => match w m with
    | none => least
    | some p => lbo row w m (cost + p) (some (match least with
      | none => row m + (cost + p)
      | some l => if row m + (cost + p) < l then row m + (cost + p) else l))
def segP (w : Nat → Option Int) (f n : Nat) : Option Int := sumO ((List.range n).map fun i => w (f + i))
theorem segP_zero (w : Nat → Option Int) (f : Nat) : segP w f 0 = some 0 := rfl
theorem segP_succ {w : Nat → Option Int} {f n : Nat} {s : Int} (h : segP w f (n + 1) = some s) : ∃ x y, segP w f n = some x ∧ w (f + n) = some y ∧ s = x + y := by
  unfold segP at h
  rw [List.range_succ, List.map_append] at h
  have h := (sumO_snoc _ _).symm.trans h
  cases e1 : sumO ((List.range n).map fun i => w (f + i)) with
  | none =>
    rw [e1] at h
    cases h
  | some x =>
    rw [e1] at h
    have h : (match some x, w (f + n) with
      | some x, some y => some (x + y)
      | _, _ => none) = some s := h
    cases e2 : w (f + n) with
    | none =>
      rw [e2] at h
      cases h
    | some y =>
      rw [e2] at h
      exact ⟨x, y, e1, rfl, (Option.some.inj h).symm⟩
theorem segP_add {w : Nat → Option Int} {f n : Nat} {x y : Int} (h1 : segP w f n = some x) (h2 : w (f + n) = some y) : segP w f (n + 1) = some (x + y) := by
  unfold segP at h1 ⊢
  rw [List.range_succ, List.map_append]
  refine (sumO_snoc _ _).trans ?_
  rw [h1]
  show (match some x, w (f + n) with
      | some x, some y => some (x + y)
      | _, _ => none) = _
  rw [h2]
/-- v is the cost of a choice for the m + 1 first days: a stretch from f on, baked on b, behind the f first days; or nothing wanted on day m -/
def Choice (g : Good) (lights row : Nat → Int) (m : Nat) (v : Int) : Prop := (∃ b f s, b ≤ m ∧ f ≤ m ∧ segP (wantP g b) f (m + 1 - f) = some s ∧ v = row f + lights b + s) ∨ ((∃ d, g.days[m]? = some d ∧ d.want = 0) ∧ v = row m)
structure IsRow (g : Good) (lights row : Nat → Int) (n : Nat) : Prop where
  zero : row 0 = 0
  some : ∀ m, m < n → Choice g lights row m (row (m + 1))
  least : ∀ m, m < n → ∀ v, Choice g lights row m v → row (m + 1) ≤ v
theorem IsRow.ext {g : Good} {lights row row' : Nat → Int} {n : Nat} (h : IsRow g lights row n) (h' : IsRow g lights row' n) : ∀ m, m ≤ n → row m = row' m := by
  intro m
  induction m using Nat.strongRecOn with
  | ind m ih =>
    intro hm
    cases m with
    | zero => rw [h.zero, h'.zero]
    | succ m =>
      have tr : ∀ v, Choice g lights row m v ↔ Choice g lights row' m v := by
        intro v
        have e : ∀ f, f ≤ m → row f = row' f := fun f hf => ih f (by omega) (by omega)
        constructor
        · rintro (⟨b, f, s, h1, h2, h3, h4⟩ | ⟨h1, h2⟩)
          · exact .inl ⟨b, f, s, h1, h2, h3, by rw [← e f h2]; exact h4⟩
          · exact .inr ⟨h1, by rw [← e m (by omega)]; exact h2⟩
        · rintro (⟨b, f, s, h1, h2, h3, h4⟩ | ⟨h1, h2⟩)
          · exact .inl ⟨b, f, s, h1, h2, h3, by rw [e f h2]; exact h4⟩
          · exact .inr ⟨h1, by rw [e m (by omega)]; exact h2⟩
      have a := h.least m (by omega) _ ((tr _).mpr (h'.some m (by omega)))
      have b := h'.least m (by omega) _ ((tr _).mp (h.some m (by omega)))
      omega
/-! ### days added -/
theorem seg_take {α : Type} (l : List α) {i k j : Nat} (h : k ≤ j) : ((l.take j).drop i).take (k - i) = (l.drop i).take (k - i) := by
  rw [List.drop_take, List.take_take]
  congr 1
  omega
theorem loafP_take {g : Good} {j b k : Nat} (hb : b < j) (hk : k < j) : loafP ⟨g.days.take j, g.life⟩ b k = loafP g b k := by
  unfold loafP
  rw [List.getElem?_take_of_lt hb]
  cases g.days[b]? with
  | none => rfl
  | some d =>
    dsimp only
    have e1 : finesL (g.days.take j) k b = finesL g.days k b := by
      unfold finesL
      rw [seg_take g.days (show b ≤ j by omega)]
    have e2 : keepsL (g.days.take j) b k = keepsL g.days b k := by
      unfold keepsL
      rw [seg_take g.days (show k ≤ j by omega)]
    rw [e1, e2]
theorem wantP_take {g : Good} {j b k : Nat} (hb : b < j) (hk : k < j) : wantP ⟨g.days.take j, g.life⟩ b k = wantP g b k := by
  unfold wantP
  rw [loafP_take hb hk]
  dsimp only
  rw [List.getElem?_take_of_lt hk]
theorem segP_take {g : Good} {j b f n : Nat} (hb : b < j) (hn : f + n ≤ j) : segP (wantP ⟨g.days.take j, g.life⟩ b) f n = segP (wantP g b) f n := by
  unfold segP
  congr 1
  apply List.map_congr_left
  intro i hi
  have := List.mem_range.mp hi
  exact wantP_take hb (by omega)
theorem Choice.take {g : Good} {lights row : Nat → Int} {j m : Nat} (hm : m < j) {v : Int} : Choice ⟨g.days.take j, g.life⟩ lights row m v ↔ Choice g lights row m v := by
  have e : ∀ b f, b ≤ m → f ≤ m → segP (wantP ⟨g.days.take j, g.life⟩ b) f (m + 1 - f) = segP (wantP g b) f (m + 1 - f) := fun b f h1 h2 => segP_take (by omega) (by omega)
  have ed : (g.days.take j)[m]? = g.days[m]? := List.getElem?_take_of_lt hm
  constructor
  · rintro (⟨b, f, s, h1, h2, h3, h4⟩ | ⟨⟨d, h1, h1'⟩, h2⟩)
    · exact .inl ⟨b, f, s, h1, h2, by rw [← e b f h1 h2]; exact h3, h4⟩
    · exact .inr ⟨⟨d, by rw [← ed]; exact h1, h1'⟩, h2⟩
  · rintro (⟨b, f, s, h1, h2, h3, h4⟩ | ⟨⟨d, h1, h1'⟩, h2⟩)
    · exact .inl ⟨b, f, s, h1, h2, by rw [e b f h1 h2]; exact h3, h4⟩
    · exact .inr ⟨⟨d, by show (g.days.take j)[m]? = _; rw [ed]; exact h1, h1'⟩, h2⟩
theorem IsRow.take {g : Good} {lights row : Nat → Int} {n j : Nat} (h : IsRow g lights row n) (hj : j ≤ n) : IsRow ⟨g.days.take j, g.life⟩ lights row j :=
  ⟨h.zero, fun m hm => (Choice.take hm).mpr (h.some m (by omega)), fun m hm v hv => h.least m (by omega) v ((Choice.take hm).mp hv)⟩
theorem Choice.congr {g : Good} {lights row row' : Nat → Int} {m : Nat} {v : Int} (e : ∀ f, f ≤ m → row f = row' f) (h : Choice g lights row m v) : Choice g lights row' m v := by
  rcases h with ⟨b, f, s, h1, h2, h3, h4⟩ | ⟨h1, h2⟩
  · exact .inl ⟨b, f, s, h1, h2, h3, by rw [← e f h2]; exact h4⟩
  · exact .inr ⟨h1, by rw [← e m (Nat.le_refl m)]; exact h2⟩
def rowF (rs : List Int) (i : Nat) : Int := rs.getD i 0
theorem rowF_snoc {rs : List Int} {v : Int} {f : Nat} (h : f < rs.length) : rowF (rs ++ [v]) f = rowF rs f := by
  unfold rowF
  rw [List.getD_eq_getElem?_getD, List.getD_eq_getElem?_getD, List.getElem?_append_left h]
theorem rowF_last {rs : List Int} {v : Int} {n : Nat} (h : rs.length = n) : rowF (rs ++ [v]) n = v := by
  unfold rowF
  rw [List.getD_eq_getElem?_getD, List.getElem?_append_right (by omega), h, Nat.sub_self]
  rfl
theorem IsRow.snoc {g : Good} {lights : Nat → Int} {rs : List Int} {n : Nat} {v : Int} (h : IsRow g lights (rowF rs) n) (hl : rs.length = n + 1) (hc : Choice g lights (rowF rs) n v) (hm : ∀ u, Choice g lights (rowF rs) n u → v ≤ u) : IsRow g lights (rowF (rs ++ [v])) (n + 1) := by
  have e : ∀ f, f ≤ n → rowF rs f = rowF (rs ++ [v]) f := fun f hf => (rowF_snoc (by omega)).symm
  have e' : ∀ f, f ≤ n → rowF (rs ++ [v]) f = rowF rs f := fun f hf => rowF_snoc (by omega)
  refine ⟨by rw [e' 0 (by omega)]; exact h.zero, fun m hmn => ?_, fun m hmn u hu => ?_⟩
  · by_cases hlt : m < n
    · rw [e' (m + 1) (by omega)]
      exact (h.some m hlt).congr fun f hf => e f (by omega)
    · have : m = n := by omega
      subst this
      rw [rowF_last hl]
      exact hc.congr e
  · by_cases hlt : m < n
    · rw [e' (m + 1) (by omega)]
      exact h.least m hlt u (hu.congr fun f hf => e' f (by omega))
    · have : m = n := by omega
      subst this
      rw [rowF_last hl]
      exact hm u (hu.congr e')
theorem IsRow.init (g : Good) (lights : Nat → Int) : IsRow g lights (rowF [0]) 0 := ⟨rfl, fun m h => by omega, fun m h => by omega⟩
/-! ### the least of the costs of each day of baking -/
def lbos (row lights : Nat → Int) (w : Nat → Nat → Option Int) (m c : Nat) : List (Option Int) := (List.range c).map fun b => lbo row (w b) (m + 1) (lights b) none
/-- a last stretch of the first m + 1 days, baked on one of the first c days -/
def ChC (row lights : Nat → Int) (w : Nat → Nat → Option Int) (c m : Nat) (v : Int) : Prop := ∃ b f s, b < c ∧ f ≤ m ∧ segP (w b) f (m + 1 - f) = some s ∧ v = row f + lights b + s
end Bk

namespace Bk
open PySem PySem.Spec PyProof.Rows L2
theorem rMin_r {K : PySem.W.Frag} {p : Addr} {H : Hp} {Q : VK} : rMin K [.ref p] H Q = ∃ ns : List Int, SqL K H p (ns.map V.int) ∧ 0 < ns.length ∧ ∀ m, m ∈ ns → (∀ y, y ∈ ns → m ≤ y) → Q (.int m) H := propext ⟨fun ⟨a, bs, e, h⟩ => by cases e; exact ⟨bs, h⟩, fun ⟨bs, h⟩ => ⟨p, bs, rfl, h⟩⟩
def lcScope (d : Scope) (l : List Stmt) (i : Nat) : Scope := match l[i]? with
  | some (.Assign _ (.ListComp _ _ sc _) _) => sc
  | _ => d
theorem ThAll.intsV {K : PySem.W.Frag} {H : Hp} : ∀ {xs : List V} {ns : List Int}, ThAll K H xs (ns.map PyData.int) → xs = ns.map V.int
  | _, [], .nil => rfl
  | _, n :: r, .cons (.int _) t => by rw [ThAll.intsV t]; rfl
end Bk

namespace Bk
open PySem PySem.Spec PyProof.Rows L2
/-! ### rows rise where nothing may wait -/
structure NonNegW (ds : List Day) : Prop where
  nn : NonNeg ds
  want : ∀ d ∈ ds, 0 ≤ d.want
  loaf : ∀ d ∈ ds, 0 ≤ d.loaf
theorem loafP_nonneg {g : Good} (N : NonNegW g.days) {b k : Nat} {z : Int} (h : loafP g b k = some z) : 0 ≤ z := by
  cases hd : g.days[b]? with
  | none =>
    unfold loafP at h
    rw [hd] at h
    cases h
  | some d =>
    rw [loafP_ext hd] at h
    have h0 := N.loaf d (List.mem_of_getElem? hd)
    cases he : extP g b k with
    | none => rw [he] at h; cases h
    | some e =>
      rw [he] at h
      have h : d.loaf + e = z := Option.some.inj h
      have : 0 ≤ e := by
        by_cases hkb : k < b
        · exact finesL_nonneg N.nn ((ext_fine hkb).mp he)
        · rw [← ((ext_keep (by omega)).mp he).2]
          exact keepsL_nonneg N.nn _ _
      omega
theorem wantP_nonneg {g : Good} (N : NonNegW g.days) {b k : Nat} {z : Int} (h : wantP g b k = some z) : 0 ≤ z := by
  unfold wantP at h
  cases hd : g.days[k]? with
  | none => rw [hd] at h; cases h
  | some d =>
    rw [hd] at h
    dsimp only at h
    split at h
    · have h : (0 : Int) = z := Option.some.inj h
      omega
    · cases hp : loafP g b k with
      | none => rw [hp] at h; cases h
      | some y =>
        rw [hp] at h
        have h : d.want * y = z := Option.some.inj h
        rw [← h]
        exact Int.mul_nonneg (N.want d (List.mem_of_getElem? hd)) (loafP_nonneg N hp)
theorem wantP_late {g : Good} (nf : ∀ d ∈ g.days, d.fine = none) {b k : Nat} (hk : k < b) {z : Int} (h : wantP g b k = some z) : ∃ d, g.days[k]? = some d ∧ d.want = 0 := by
  unfold wantP at h
  cases hd : g.days[k]? with
  | none => rw [hd] at h; cases h
  | some d =>
    rw [hd] at h
    dsimp only at h
    split at h
    · exact ⟨d, rfl, by assumption⟩
    · exfalso
      cases hp : loafP g b k with
      | none => rw [hp] at h; cases h
      | some y =>
        cases hb : g.days[b]? with
        | none =>
          unfold loafP at hp
          rw [hb] at hp
          cases hp
        | some d' =>
          rw [loafP_ext hb] at hp
          cases he : extP g b k with
          | none => rw [he] at hp; cases hp
          | some e =>
            have hf := (ext_fine hk).mp he
            unfold finesL at hf
            obtain ⟨hlt, e1⟩ := List.getElem?_eq_some_iff.mp hd
            rw [List.drop_eq_getElem_cons hlt, e1, show b - k = (b - k - 1) + 1 by omega] at hf
            have hf : sumO (d.fine :: ((g.days.drop (k + 1)).take (b - k - 1)).map Day.fine) = some e := hf
            rw [nf d (List.mem_of_getElem? hd)] at hf
            cases hf
theorem segP_all {w : Nat → Option Int} {f : Nat} : ∀ {n : Nat} {s : Int}, segP w f n = some s → ∀ i, i < n → ∃ z, w (f + i) = some z
  | 0, _, _, i, hi => by omega
  | n + 1, s, h, i, hi => by
    obtain ⟨x, y, h1, h2, _⟩ := segP_succ h
    by_cases e : i < n
    · exact segP_all h1 i e
    · have : i = n := by omega
      subst this
      exact ⟨y, h2⟩
theorem segP_nonneg {w : Nat → Option Int} {f : Nat} (nn : ∀ k z, w k = some z → 0 ≤ z) : ∀ {n : Nat} {s : Int}, segP w f n = some s → 0 ≤ s
  | 0, s, h => by
    have : (0 : Int) = s := Option.some.inj h
    omega
  | n + 1, s, h => by
    obtain ⟨x, y, h1, h2, h3⟩ := segP_succ h
    have := segP_nonneg nn h1
    have := nn _ _ h2
    omega
theorem row_flat {g : Good} {lights row : Nat → Int} {n : Nat} (h : IsRow g lights row n) {f : Nat} : ∀ m, f ≤ m → m ≤ n → (∀ k, f ≤ k → k < m → ∃ d, g.days[k]? = some d ∧ d.want = 0) → row m ≤ row f
  | 0, h1, _, _ => by rw [show f = 0 by omega]; exact Int.le_refl _
  | m + 1, h1, h2, hz => by
    by_cases e : f = m + 1
    · rw [e]; exact Int.le_refl _
    · have a := row_flat h m (by omega) (by omega) fun k k1 k2 => hz k k1 (by omega)
      have b := h.least m (by omega) _ (.inr ⟨hz m (by omega) (by omega), rfl⟩)
      omega
theorem row_up {g : Good} {lights row : Nat → Int} {n : Nat} (h : IsRow g lights row n) (hl : ∀ b, 0 ≤ lights b) (N : NonNegW g.days) (nf : ∀ d ∈ g.days, d.fine = none) {m : Nat} (hm : m < n) : row m ≤ row (m + 1) := by
  rcases h.some m hm with ⟨b, f, s, hb, hf, hs, hv⟩ | ⟨_, hv⟩
  · have lb := hl b
    have sn : 0 ≤ s := segP_nonneg (fun k z e => wantP_nonneg N e) hs
    by_cases e : f = m
    · subst e
      omega
    · rw [show m + 1 - f = (m - f) + 1 by omega] at hs
      obtain ⟨x, y, h1, h2, h3⟩ := segP_succ hs
      have yn := wantP_nonneg N h2
      by_cases eb : b < m
      · have := h.least (m - 1) (by omega) (row f + lights b + x) (.inl ⟨b, f, x, by omega, by omega, by rw [show m - 1 + 1 - f = m - f by omega]; exact h1, rfl⟩)
        rw [show m - 1 + 1 = m by omega] at this
        omega
      · have eb : b = m := by omega
        subst eb
        have := row_flat h b (f := f) (by omega) (by omega) fun k k1 k2 => by
          obtain ⟨z, hz⟩ := segP_all h1 (k - f) (by omega)
          rw [show f + (k - f) = k by omega] at hz
          exact wantP_late nf k2 hz
        omega
  · omega
/-! ### lists of days, compared -/
theorem Choice.lights {g : Good} {lights lights' row : Nat → Int} {m : Nat} {v : Int} (e : ∀ b, b ≤ m → lights b = lights' b) (h : Choice g lights row m v) : Choice g lights' row m v := by
  rcases h with ⟨b, f, s, h1, h2, h3, h4⟩ | h
  · exact .inl ⟨b, f, s, h1, h2, h3, by rw [← e b h1]; exact h4⟩
  · exact .inr h
theorem row_lights {g : Good} {lights lights' row : Nat → Int} {n : Nat} (e : ∀ b, b < n → lights b = lights' b) (h : IsRow g lights row n) : IsRow g lights' row n :=
  ⟨h.zero, fun m hm => (h.some m hm).lights fun b hb => e b (by omega), fun m hm v hv => h.least m hm v (hv.lights fun b hb => (e b (by omega)).symm)⟩
theorem rowF_take {ls : List Int} {m b : Nat} (h : b < m) : rowF (ls.take m) b = rowF ls b := by
  unfold rowF
  rw [List.getD_eq_getElem?_getD, List.getD_eq_getElem?_getD, List.getElem?_take_of_lt h]
end Bk

namespace Bk
open PySem PySem.Spec PyProof.Rows L2
/-! ### sums -/
def sumN (f : Nat → Int) : Nat → Int
  | 0 => 0
  | n + 1 => sumN f n + f n
theorem sumN_le {f f' : Nat → Int} : ∀ n, (∀ k, k < n → f k ≤ f' k) → sumN f n ≤ sumN f' n
  | 0, _ => Int.le_refl 0
  | n + 1, h => by
    have a := sumN_le n fun k hk => h k (by omega)
    have b := h n (by omega)
    show sumN f n + f n ≤ sumN f' n + f' n
    omega
theorem sumN_congr {f f' : Nat → Int} (n : Nat) (h : ∀ k, k < n → f k = f' k) : sumN f n = sumN f' n := by
  have a := sumN_le n fun k hk => Int.le_of_eq (h k hk)
  have b := sumN_le n fun k hk => Int.le_of_eq (h k hk).symm
  omega
theorem sumN_add (f f' : Nat → Int) : ∀ n, sumN (fun k => f k + f' k) n = sumN f n + sumN f' n
  | 0 => rfl
  | n + 1 => by
    show sumN (fun k => f k + f' k) n + (f n + f' n) = (sumN f n + f n) + (sumN f' n + f' n)
    rw [sumN_add f f' n]
    omega
theorem sumN_zero {f : Nat → Int} (n : Nat) (h : ∀ k, k < n → f k = 0) : sumN f n = 0 := by
  rw [sumN_congr (f' := fun _ => 0) n h]
  induction n with
  | zero => rfl
  | succ n ih =>
    show sumN (fun _ => 0) n + 0 = 0
    rw [ih fun k hk => h k (by omega)]
    rfl
theorem sumN_nonneg {f : Nat → Int} (n : Nat) (h : ∀ k, k < n → 0 ≤ f k) : 0 ≤ sumN f n := by
  have := sumN_le (f := fun _ => 0) n h
  rw [sumN_zero n fun _ _ => rfl] at this
  exact this
theorem sumN_split (f : Nat → Int) (m : Nat) : ∀ n, sumN f (m + n) = sumN f m + sumN (fun i => f (m + i)) n
  | 0 => by
    show sumN f m = sumN f m + 0
    omega
  | n + 1 => by
    show sumN f (m + n) + f (m + n) = sumN f m + (sumN (fun i => f (m + i)) n + f (m + n))
    rw [sumN_split f m n]
    omega
theorem sumN_grow {f : Nat → Int} {m n : Nat} (hmn : m ≤ n) (h : ∀ k, k < n → 0 ≤ f k) : sumN f m ≤ sumN f n := by
  have e := sumN_split f m (n - m)
  rw [show m + (n - m) = n by omega] at e
  have := sumN_nonneg (f := fun i => f (m + i)) (n - m) fun k hk => h _ (by omega)
  omega
theorem sumN_one {L : Nat → Int} {b : Nat} : ∀ n, b < n → sumN (fun x => if x = b then L x else 0) n = L b
  | 0, h => by omega
  | n + 1, h => by
    show sumN (fun x => if x = b then L x else 0) n + (if n = b then L n else 0) = L b
    by_cases e : n = b
    · subst e
      rw [if_pos rfl, sumN_zero n fun k hk => if_neg (by omega)]
      omega
    · rw [if_neg e, sumN_one n (by omega)]
      omega
theorem segP_of {w : Nat → Option Int} {q : Nat → Int} {f : Nat} : ∀ n, (∀ i, i < n → w (f + i) = some (q (f + i))) → segP w f n = some (sumN (fun i => q (f + i)) n)
  | 0, _ => rfl
  | n + 1, h => segP_add (segP_of n fun i hi => h i (by omega)) (h n (by omega))
theorem exists_least {P : Nat → Prop} (h : ∃ n, P n) : ∃ n, P n ∧ ∀ m, m < n → ¬ P m := by
  obtain ⟨n, hn⟩ := h
  induction n using Nat.strongRecOn with
  | ind n ih =>
    by_cases h : ∃ m, m < n ∧ P m
    · obtain ⟨m, hm, pm⟩ := h
      exact ih m hm pm
    · exact ⟨n, hn, fun m hm pm => h ⟨m, hm, pm⟩⟩
theorem exists_last {P : Nat → Prop} {n : Nat} (h : ∃ k, k < n ∧ P k) : ∃ k, k < n ∧ P k ∧ ∀ m, k < m → m < n → ¬ P m := by
  induction n with
  | zero =>
    obtain ⟨k, hk, _⟩ := h
    omega
  | succ n ih =>
    by_cases hn : P n
    · exact ⟨n, by omega, hn, fun m h1 h2 => by omega⟩
    · obtain ⟨k, hk, pk⟩ := h
      have : k < n := by
        by_cases e : k = n
        · subst e; exact absurd pk hn
        · omega
      obtain ⟨k', h1, h2, h3⟩ := ih ⟨k, this, pk⟩
      refine ⟨k', by omega, h2, fun m m1 m2 => ?_⟩
      by_cases e : m = n
      · subst e; exact hn
      · exact h3 m m1 (by omega)
/-! ### what a set of lit days costs -/
def wantN (g : Good) (k : Nat) : Int := match g.days[k]? with
  | none => 0
  | some d => d.want
structure MinP (g : Good) (S : Nat → Prop) (n k : Nat) (z : Int) : Prop where
  ex : ∃ b, b < n ∧ S b ∧ loafP g b k = some z
  le : ∀ b, b < n → S b → ∀ y, loafP g b k = some y → z ≤ y
open Classical in
noncomputable def litSum (lights : Nat → Int) (S : Nat → Prop) (n : Nat) : Int := sumN (fun b => if S b then lights b else 0) n
structure SetC (g : Good) (lights : Nat → Int) (S : Nat → Prop) (n : Nat) (p : Nat → Int) (c : Int) : Prop where
  min : ∀ k, k < n → wantN g k ≠ 0 → MinP g S n k (p k)
  cost : c = litSum lights S n + sumN (fun k => wantN g k * p k) n
theorem wantP_of {g : Good} {b k : Nat} {z : Int} (hk : k < g.days.length) (h : wantN g k ≠ 0 → loafP g b k = some z) : wantP g b k = some (wantN g k * z) := by
  have hd : g.days[k]? = some g.days[k] := List.getElem?_eq_getElem hk
  unfold wantN at h ⊢
  unfold wantP
  rw [hd] at h ⊢
  dsimp only at h ⊢
  by_cases e : g.days[k].want = 0
  · rw [if_pos e, e, Int.zero_mul]
  · rw [if_neg e, h e]
    rfl
theorem wantN_nonneg {g : Good} (N : NonNegW g.days) (k : Nat) : 0 ≤ wantN g k := by
  unfold wantN
  cases hd : g.days[k]? with
  | none => exact Int.le_refl 0
  | some d => exact N.want d (List.mem_of_getElem? hd)
theorem wantN_zero {g : Good} {k : Nat} (hk : k < g.days.length) (h : wantN g k = 0) : ∃ d, g.days[k]? = some d ∧ d.want = 0 := by
  have hd : g.days[k]? = some g.days[k] := List.getElem?_eq_getElem hk
  refine ⟨_, hd, ?_⟩
  unfold wantN at h
  rw [hd] at h
  exact h
/-- the first day of the set on which day k's loaves cost p -/
structure Sm (g : Good) (S : Nat → Prop) (n : Nat) (p : Nat → Int) (k b : Nat) : Prop where
  lt : b < n
  mem : S b
  at_ : loafP g b k = some (p k)
  first : ∀ b', b' < b → S b' → loafP g b' k ≠ some (p k)
theorem sm_ex {g : Good} {S : Nat → Prop} {n : Nat} {p : Nat → Int} {k : Nat} (h : MinP g S n k (p k)) : ∃ b, Sm g S n p k b := by
  obtain ⟨b, ⟨h1, h2, h3⟩, h4⟩ := exists_least h.ex
  exact ⟨b, h1, h2, h3, fun b' hb' hs e => h4 b' hb' ⟨by omega, hs, e⟩⟩
theorem sm_uniq {g : Good} {S : Nat → Prop} {n : Nat} {p : Nat → Int} {k b b' : Nat} (h : Sm g S n p k b) (h' : Sm g S n p k b') : b = b' := by
  by_cases e : b < b'
  · exact absurd h.at_ (h'.first b e h.mem)
  · by_cases e' : b' < b
    · exact absurd h'.at_ (h.first b' e' h'.mem)
    · omega
theorem sm_mono {g : Good} (N : NonNeg g.days) {S : Nat → Prop} {n : Nat} {p : Nat → Int} (hn : n ≤ g.days.length) {k k' b b' : Nat} (hk : k < k') (mk : MinP g S n k (p k)) (mk' : MinP g S n k' (p k')) (h : Sm g S n p k b) (h' : Sm g S n p k' b') : b ≤ b' := by
  by_cases e : b ≤ b'
  · exact e
  · exfalso
    have hb := h.lt
    obtain ⟨z, t, h1, h2, h3⟩ := loaf_cross N (show b' < b by omega) hk (by omega) h'.at_ h.at_
    have a1 := mk'.le b h.lt h.mem t h2
    have a2 := mk.le b' h'.lt h'.mem z h1
    exact h.first b' (by omega) h'.mem (by rw [h1, show z = p k by omega])
theorem finesL_join {ds : List Day} {i j k : Nat} {x y : Int} (h1 : i ≤ j) (h2 : j ≤ k) (a : finesL ds i j = some x) (b : finesL ds j k = some y) : finesL ds i k = some (x + y) := by
  unfold finesL at a b ⊢
  rw [seg_split ds h1 h2, List.map_append]
  exact sumO_join' a b
theorem loafP_ext' {g : Good} {j k : Nat} {d : Day} {z : Int} (hd : g.days[j]? = some d) (h : loafP g j k = some z) : ∃ e, extP g j k = some e ∧ d.loaf + e = z := by
  rw [loafP_ext hd] at h
  cases he : extP g j k with
  | none => rw [he] at h; cases h
  | some e =>
    rw [he] at h
    exact ⟨e, rfl, Option.some.inj h⟩
/-- who waits for a day takes all wants up to that day along -/
theorem sm_wait {g : Good} (N : NonNeg g.days) (hl : ∀ l, g.life = some l → 0 ≤ l) {S : Nat → Prop} {n : Nat} {p : Nat → Int} (hn : n ≤ g.days.length) {k k' b b' : Nat} (hk : k < k') (hb : k' ≤ b) (mk : MinP g S n k (p k)) (mk' : MinP g S n k' (p k')) (h : Sm g S n p k b) (h' : Sm g S n p k' b') : b' = b := by
  have hle := sm_mono N hn hk mk mk' h h'
  by_cases e : b' = b
  · exact e
  · exfalso
    have hlt : b < b' := by omega
    have l1 := h.lt
    have l2 := h'.lt
    have db : g.days[b]? = some (g.days[b]'(by omega)) := List.getElem?_eq_getElem (by omega)
    have db' : g.days[b']? = some (g.days[b']'(by omega)) := List.getElem?_eq_getElem (by omega)
    generalize g.days[b]'(by omega) = d at db
    generalize g.days[b']'(by omega) = d' at db'
    obtain ⟨x, hx, ex⟩ := loafP_ext' db h.at_
    obtain ⟨y, hy, ey⟩ := loafP_ext' db' h'.at_
    have fx := (ext_fine (show k < b by omega)).mp hx
    have fy := (ext_fine (show k' < b' by omega)).mp hy
    obtain ⟨y1, y2, f1, f2, e12⟩ := finesL_split hb (show b ≤ b' by omega) fy
    have fj := finesL_join (show k ≤ b by omega) (show b ≤ b' by omega) fx f2
    have pj : loafP g b' k = some (d'.loaf + (x + y2)) := by
      rw [loafP_ext db', (ext_fine (show k < b' by omega)).mpr fj]
      rfl
    have a1 := mk.le b' h'.lt h'.mem _ pj
    have pk : loafP g b k' = some (d.loaf + y1) := by
      by_cases ekb : k' < b
      · rw [loafP_ext db, (ext_fine ekb).mpr f1]
        rfl
      · have ekb : k' = b := by omega
        subst ekb
        have z1 : y1 = 0 := by
          unfold finesL at f1
          rw [Nat.sub_self] at f1
          exact (Option.some.inj f1).symm
        have z2 : keepsL g.days k' k' = 0 := by
          unfold keepsL
          rw [Nat.sub_self]
          rfl
        rw [loafP_ext db, (ext_keep (Nat.le_refl k')).mpr ⟨fun l el => by have := hl l el; omega, z2⟩, z1]
        rfl
    have a2 := mk'.le b h.lt h.mem _ pk
    exact h'.first b hlt h.mem (by rw [pk]; congr 1; omega)
open Classical in
/-- no set of lit days costs less than the row tells -/
theorem row_le_set {g : Good} {lights row : Nat → Int} {M : Nat} (h : IsRow g lights row M) (hM : M ≤ g.days.length) (hl : ∀ b, 0 ≤ lights b) (N : NonNegW g.days) (hlf : ∀ l, g.life = some l → 0 ≤ l) : ∀ n, n ≤ M → ∀ (S : Nat → Prop) (p : Nat → Int) (c : Int), SetC g lights S n p c → row n ≤ c := by
  intro n
  induction n using Nat.strongRecOn with
  | ind n ih =>
    intro hn S p c hc
    have ls0 : ∀ (S : Nat → Prop) m, 0 ≤ litSum lights S m := fun S m => sumN_nonneg m fun k _ => by
      show 0 ≤ (if S k then lights k else 0)
      split
      · exact hl k
      · exact Int.le_refl 0
    by_cases hw : ∃ k, k < n ∧ wantN g k ≠ 0
    · obtain ⟨kl, hkl, wkl, lastk⟩ := exists_last hw
      obtain ⟨bs, hbs⟩ := sm_ex (hc.min kl hkl wkl)
      obtain ⟨f, ⟨hf1, hf2, hf3⟩, hf4⟩ := exists_least (P := fun k => k < n ∧ wantN g k ≠ 0 ∧ Sm g S n p k bs) ⟨kl, hkl, wkl, hbs⟩
      have hfk : f ≤ kl := by
        by_cases e : f ≤ kl
        · exact e
        · exact absurd ⟨hkl, wkl, hbs⟩ (hf4 kl (by omega))
      have hbn := hbs.lt
      have lo : ∀ k, k < f → wantN g k ≠ 0 → ∃ b, Sm g S n p k b ∧ b < f ∧ b < bs := by
        intro k hk wk
        obtain ⟨b, hb⟩ := sm_ex (hc.min k (by omega) wk)
        have h1 := sm_mono N.nn (by omega) hk (hc.min k (by omega) wk) (hc.min f hf1 hf2) hb hf3
        have h2 : b ≠ bs := fun e => hf4 k hk ⟨by omega, wk, e ▸ hb⟩
        refine ⟨b, hb, ?_, by omega⟩
        by_cases e : b < f
        · exact e
        · exact absurd (sm_wait N.nn hlf (by omega) hk (by omega) (hc.min k (by omega) wk) (hc.min f hf1 hf2) hb hf3).symm h2
      have hi : ∀ k, f ≤ k → k < n → wantN g k ≠ 0 → loafP g bs k = some (p k) := by
        intro k hk hkn wk
        have hkkl : k ≤ kl := by
          by_cases e : k ≤ kl
          · exact e
          · exact absurd wk (lastk k (by omega) hkn)
        obtain ⟨b, hb⟩ := sm_ex (hc.min k hkn wk)
        have h1 : bs ≤ b := by
          by_cases e : f = k
          · subst e
            exact Nat.le_of_eq (sm_uniq hf3 hb)
          · exact sm_mono N.nn (by omega) (show f < k by omega) (hc.min f hf1 hf2) (hc.min k hkn wk) hf3 hb
        have h2 : b ≤ bs := by
          by_cases e : k = kl
          · subst e
            exact Nat.le_of_eq (sm_uniq hb hbs)
          · exact sm_mono N.nn (by omega) (show k < kl by omega) (hc.min k hkn wk) (hc.min kl hkl wkl) hb hbs
        have : b = bs := by omega
        subst this
        exact hb.at_
      -- the days ahead of the stretch
      have low : row f ≤ litSum lights (fun b => S b ∧ b < f ∧ b < bs) f + sumN (fun k => wantN g k * p k) f := by
        refine ih f hf1 (by omega) (fun b => S b ∧ b < f ∧ b < bs) p _ ⟨fun k hk wk => ?_, rfl⟩
        obtain ⟨b, hb, h1, h2⟩ := lo k hk wk
        exact ⟨⟨b, h1, ⟨hb.mem, h1, h2⟩, hb.at_⟩, fun b' hb' hs y hy => (hc.min k (by omega) wk).le b' (by omega) hs.1 y hy⟩
      -- the stretch
      have seg : segP (wantP g bs) f (n - f) = some (sumN (fun i => wantN g (f + i) * p (f + i)) (n - f)) := segP_of (q := fun k => wantN g k * p k) (n - f) fun i hi' => wantP_of (by omega) fun wk => hi (f + i) (by omega) (by omega) wk
      have least := h.least (n - 1) (by omega) _ (.inl ⟨bs, f, _, by omega, by omega, by rw [show n - 1 + 1 - f = n - f by omega]; exact seg, rfl⟩)
      rw [show n - 1 + 1 = n by omega] at least
      have spl := sumN_split (fun k => wantN g k * p k) f (n - f)
      rw [show f + (n - f) = n by omega] at spl
      -- the lights
      have lit : litSum lights (fun b => S b ∧ b < f ∧ b < bs) f + lights bs ≤ litSum lights S n := by
        have g1 : litSum lights (fun b => S b ∧ b < f ∧ b < bs) f ≤ litSum lights (fun b => S b ∧ b < f ∧ b < bs) n := sumN_grow (by omega) fun k _ => by
          dsimp only
          split
          · exact hl k
          · exact Int.le_refl 0
        have g2 := sumN_one (L := lights) n hbn
        have g3 : litSum lights (fun b => S b ∧ b < f ∧ b < bs) n + sumN (fun x => if x = bs then lights x else 0) n ≤ litSum lights S n := by
          unfold litSum
          rw [← sumN_add]
          refine sumN_le n fun k hk => ?_
          have lk := hl k
          by_cases e : k = bs
          · subst e
            rw [if_neg (fun z => by omega), if_pos rfl, if_pos hbs.mem]
            omega
          · rw [if_neg e]
            by_cases e2 : S k ∧ k < f ∧ k < bs
            · rw [if_pos e2, if_pos e2.1]
              omega
            · rw [if_neg e2]
              split <;> omega
        omega
      have cc := hc.cost
      omega
    · have z : ∀ k, k < n → wantN g k = 0 := fun k hk => Decidable.not_not.mp fun e => hw ⟨k, hk, e⟩
      have a := row_flat h (f := 0) n (by omega) hn fun k _ hk => wantN_zero (by omega) (z k hk)
      rw [h.zero] at a
      have b := hc.cost
      rw [sumN_zero n fun k hk => by rw [z k hk, Int.zero_mul]] at b
      have := ls0 S n
      omega
open Classical in
theorem exists_min {g : Good} {S : Nat → Prop} {k : Nat} : ∀ n, (∃ b z, b < n ∧ S b ∧ loafP g b k = some z) → ∃ z, MinP g S n k z
  | 0, h => by
    obtain ⟨b, z, hb, _⟩ := h
    omega
  | n + 1, h => by
    by_cases h0 : ∃ b z, b < n ∧ S b ∧ loafP g b k = some z
    · obtain ⟨z, ⟨b, hb, hs, hz⟩, hle⟩ := exists_min n h0
      by_cases hn : S n ∧ ∃ y, loafP g n k = some y ∧ y < z
      · obtain ⟨sn, y, hy, hyz⟩ := hn
        refine ⟨y, ⟨n, by omega, sn, hy⟩, fun b' hb' hs' y' hy' => ?_⟩
        by_cases e : b' = n
        · subst e
          rw [hy] at hy'
          have := Option.some.inj hy'
          omega
        · have := hle b' (by omega) hs' y' hy'
          omega
      · refine ⟨z, ⟨b, by omega, hs, hz⟩, fun b' hb' hs' y' hy' => ?_⟩
        by_cases e : b' = n
        · subst e
          by_cases hh : z ≤ y'
          · exact hh
          · exact absurd ⟨hs', y', hy', by omega⟩ hn
        · exact hle b' (by omega) hs' y' hy'
    · obtain ⟨b, z, hb, hs, hz⟩ := h
      have e : b = n := by
        by_cases e : b = n
        · exact e
        · exact absurd ⟨b, z, by omega, hs, hz⟩ h0
      subst e
      refine ⟨z, ⟨b, by omega, hs, hz⟩, fun b' hb' hs' y' hy' => ?_⟩
      by_cases e : b' = b
      · subst e
        rw [hz] at hy'
        have := Option.some.inj hy'
        omega
      · exact absurd ⟨b', y', by omega, hs', hy'⟩ h0
theorem wantP_inv {g : Good} {b k : Nat} {z : Int} (h : wantP g b k = some z) : (wantN g k = 0 ∧ z = 0) ∨ ∃ y, loafP g b k = some y ∧ z = wantN g k * y := by
  unfold wantP at h
  unfold wantN
  cases hd : g.days[k]? with
  | none => rw [hd] at h; cases h
  | some d =>
    rw [hd] at h
    dsimp only at h ⊢
    split at h
    · exact .inl ⟨by assumption, (Option.some.inj h).symm⟩
    · cases hp : loafP g b k with
      | none => rw [hp] at h; cases h
      | some y =>
        rw [hp] at h
        exact .inr ⟨y, rfl, (Option.some.inj h).symm⟩
theorem segP_sum {w : Nat → Option Int} {f : Nat} : ∀ {n : Nat} {s : Int}, segP w f n = some s → ∃ q : Nat → Int, (∀ i, i < n → w (f + i) = some (q (f + i))) ∧ s = sumN (fun i => q (f + i)) n
  | 0, s, h => ⟨fun _ => 0, fun i hi => by omega, (Option.some.inj h).symm⟩
  | n + 1, s, h => by
    obtain ⟨x, y, h1, h2, h3⟩ := segP_succ h
    obtain ⟨q, q1, q2⟩ := segP_sum h1
    refine ⟨fun k => if k = f + n then y else q k, fun i hi => ?_, ?_⟩
    · dsimp only
      by_cases e : i = n
      · subst e
        rw [if_pos rfl]
        exact h2
      · rw [if_neg (by omega)]
        exact q1 i (by omega)
    · show s = sumN (fun i => if f + i = f + n then y else q (f + i)) n + (if f + n = f + n then y else q (f + n))
      rw [if_pos rfl, sumN_congr (f' := fun i => q (f + i)) n fun i hi => if_neg (by omega), ← q2]
      exact h3
open Classical in
/-- some set of lit days costs no more than the row tells -/
theorem set_of_row {g : Good} {lights row : Nat → Int} {M : Nat} (h : IsRow g lights row M) (hM : M ≤ g.days.length) (hl : ∀ b, 0 ≤ lights b) (N : NonNegW g.days) : ∀ n, n ≤ M → ∃ (S : Nat → Prop) (p : Nat → Int) (c : Int), SetC g lights S n p c ∧ c ≤ row n := by
  intro n
  induction n using Nat.strongRecOn with
  | ind n ih =>
    intro hn
    cases n with
    | zero => exact ⟨fun _ => False, fun _ => 0, 0, ⟨fun k hk => by omega, rfl⟩, by rw [h.zero]; exact Int.le_refl 0⟩
    | succ m =>
      rcases h.some m (by omega) with ⟨b, f, s, hb, hf, hs, hv⟩ | ⟨⟨d, hd, hw⟩, hv⟩
      · obtain ⟨S, p, c, hc, hle⟩ := ih f (by omega) (by omega)
        obtain ⟨q, q1, q2⟩ := segP_sum hs
        let S' : Nat → Prop := fun x => (x < f ∧ S x) ∨ x = b
        have ex : ∀ k, ∃ z, k < m + 1 → wantN g k ≠ 0 → MinP g S' (m + 1) k z := by
          intro k
          by_cases hk : k < m + 1 ∧ wantN g k ≠ 0
          · have : ∃ z, MinP g S' (m + 1) k z := exists_min (m + 1) (by
              by_cases hkf : k < f
              · obtain ⟨b', h1, h2, h3⟩ := (hc.min k hkf hk.2).ex
                exact ⟨b', _, by omega, .inl ⟨h1, h2⟩, h3⟩
              · have e := q1 (k - f) (by omega)
                rw [show f + (k - f) = k by omega] at e
                rcases wantP_inv e with ⟨e1, _⟩ | ⟨y, e1, _⟩
                · exact absurd e1 hk.2
                · exact ⟨b, y, by omega, .inr rfl, e1⟩)
            obtain ⟨z, hz⟩ := this
            exact ⟨z, fun _ _ => hz⟩
          · exact ⟨0, fun h1 h2 => absurd ⟨h1, h2⟩ hk⟩
        let p' : Nat → Int := fun k => choose (ex k)
        have hp' : ∀ k, k < m + 1 → wantN g k ≠ 0 → MinP g S' (m + 1) k (p' k) := fun k => choose_spec (ex k)
        refine ⟨S', p', _, ⟨hp', rfl⟩, ?_⟩
        have spl := sumN_split (fun k => wantN g k * p' k) f (m + 1 - f)
        rw [show f + (m + 1 - f) = m + 1 by omega] at spl
        have w1 : sumN (fun k => wantN g k * p' k) f ≤ sumN (fun k => wantN g k * p k) f := sumN_le f fun k hk => by
          by_cases e : wantN g k = 0
          · rw [e, Int.zero_mul, Int.zero_mul]
            exact Int.le_refl 0
          · obtain ⟨b', h1, h2, h3⟩ := (hc.min k hk e).ex
            exact Int.mul_le_mul_of_nonneg_left ((hp' k (by omega) e).le b' (by omega) (.inl ⟨h1, h2⟩) _ h3) (wantN_nonneg N k)
        have w2 : sumN (fun i => wantN g (f + i) * p' (f + i)) (m + 1 - f) ≤ s := by
          rw [q2]
          refine sumN_le _ fun i hi => ?_
          have e := q1 i hi
          by_cases ew : wantN g (f + i) = 0
          · have := wantP_nonneg N e
            rw [ew, Int.zero_mul]
            exact this
          · rcases wantP_inv e with ⟨e1, _⟩ | ⟨y, e1, e2⟩
            · exact absurd e1 ew
            · rw [e2]
              exact Int.mul_le_mul_of_nonneg_left ((hp' (f + i) (by omega) ew).le b (by omega) (.inr rfl) _ e1) (wantN_nonneg N _)
        have l1 : litSum lights S' (m + 1) ≤ litSum lights S f + lights b := by
          have e1 : litSum lights S f = litSum lights (fun x => x < f ∧ S x) (m + 1) := by
            have e := sumN_split (fun x => if x < f ∧ S x then lights x else 0) f (m + 1 - f)
            rw [show f + (m + 1 - f) = m + 1 by omega, sumN_zero (f := fun i => if f + i < f ∧ S (f + i) then lights (f + i) else 0) _ fun i _ => if_neg fun z => by omega] at e
            unfold litSum
            rw [sumN_congr (f' := fun x => if x < f ∧ S x then lights x else 0) f fun k hk => by
              by_cases e : S k
              · rw [if_pos e, if_pos ⟨hk, e⟩]
              · rw [if_neg e, if_neg fun z => e z.2]]
            have e2 : ∀ A : Int, A + 0 = A := Int.add_zero
            rw [e2] at e
            rw [← e]
            refine sumN_congr _ fun k _ => ?_
            by_cases e : k < f ∧ S k
            · rw [if_pos e, if_pos e]
            · rw [if_neg e, if_neg e]
          have e2 := sumN_one (L := lights) (m + 1) (show b < m + 1 by omega)
          rw [e1, ← e2]
          unfold litSum
          rw [← sumN_add]
          refine sumN_le _ fun k hk => ?_
          have lk := hl k
          dsimp only
          by_cases e3 : k = b
          · rw [if_pos (show S' k from .inr e3), if_pos e3]
            split <;> omega
          · by_cases e4 : k < f ∧ S k
            · rw [if_pos (show S' k from .inl e4), if_pos e4, if_neg e3]
              omega
            · rw [if_neg (show ¬ S' k from fun z => z.elim e4 e3), if_neg e4, if_neg e3]
              omega
        have cc := hc.cost
        omega
      · obtain ⟨S, p, c, hc, hle⟩ := ih m (by omega) (by omega)
        have ew : wantN g m = 0 := by
          unfold wantN
          rw [hd]
          exact hw
        refine ⟨fun x => x < m ∧ S x, p, c, ⟨fun k hk wk => ?_, ?_⟩, by rw [hv]; exact hle⟩
        · have hkm : k < m := by
            by_cases e : k = m
            · subst e; exact absurd ew wk
            · omega
          have mk := hc.min k hkm wk
          obtain ⟨b, h1, h2, h3⟩ := mk.ex
          exact ⟨⟨b, by omega, ⟨h1, h2⟩, h3⟩, fun b' hb' hs y hy => mk.le b' hs.1 hs.2 y hy⟩
        · have e1 : litSum lights (fun x => x < m ∧ S x) (m + 1) = litSum lights S m := by
            have e0 : litSum lights (fun x => x < m ∧ S x) (m + 1) = litSum lights (fun x => x < m ∧ S x) m + 0 := by
              refine congrArg (litSum lights (fun x => x < m ∧ S x) m + ·) ?_
              exact if_neg fun z => absurd z.1 (by omega)
            rw [e0, Int.add_zero]
            refine sumN_congr _ fun k hk => ?_
            dsimp only
            by_cases e : S k
            · rw [if_pos e, if_pos ⟨hk, e⟩]
            · rw [if_neg e, if_neg fun z => e z.2]
          rw [e1, hc.cost]
          show _ = litSum lights S m + (sumN (fun k => wantN g k * p k) m + wantN g m * p m)
          rw [ew, Int.zero_mul, Int.add_zero]
end Bk

namespace Bk
open PySem PySem.Spec PyProof.Rows L2
def rShr : R2 := fun x y H Q => ∃ (i : Int) (k : Nat), x = .int i ∧ y = .int (k : Int) ∧ Q (.int (i / 2 ^ k)) H
def rOdd : R2 := fun x y H Q => ∃ n : Nat, x = .int (n : Int) ∧ y = .int 1 ∧ Q (.int ((n % 2 : Nat) : Int)) H
theorem rShr_i {i j : Int} {H : Hp} {Q : VK} : rShr (.int i) (.int j) H Q = ∃ k : Nat, j = (k : Int) ∧ Q (.int (i / 2 ^ k)) H := propext ⟨fun ⟨_, k, e1, e2, h⟩ => by cases e1; cases e2; exact ⟨k, rfl, h⟩, fun ⟨k, e, h⟩ => ⟨i, k, rfl, by rw [e], h⟩⟩
theorem rOdd_i {i : Int} {H : Hp} {Q : VK} : rOdd (.int i) (.int 1) H Q = ∃ n : Nat, i = (n : Int) ∧ Q (.int ((n % 2 : Nat) : Int)) H := propext ⟨fun ⟨n, e1, e2, h⟩ => by cases e1; exact ⟨n, rfl, h⟩, fun ⟨n, e, h⟩ => ⟨n, by rw [e], rfl, h⟩⟩
def litL (S : Nat → Bool) (n : Nat) : List Nat := (List.range n).filter S
def inS (S : Nat → Bool) (b : Nat) : Prop := S b = true
def bitS (num b : Nat) : Bool := decide (num / 2 ^ b % 2 = 1)
theorem bits_ex : ∀ (n : Nat) (S : Nat → Prop), ∃ num, num < 2 ^ n ∧ ∀ b, b < n → (inS (bitS num) b ↔ S b)
  | 0, S => ⟨0, by decide, fun b hb => by omega⟩
  | n + 1, S => by
    obtain ⟨num, h1, h2⟩ := bits_ex n fun b => S (b + 1)
    have key : ∀ e : Nat, e < 2 → ∀ b, inS (bitS (e + 2 * num)) b ↔ (b = 0 ∧ e = 1) ∨ (0 < b ∧ inS (bitS num) (b - 1)) := by
      intro e he b
      unfold inS bitS
      simp only [decide_eq_true_eq]
      cases b with
      | zero =>
        rw [Nat.pow_zero, Nat.div_one]
        omega
      | succ b =>
        rw [show 2 ^ (b + 1) = 2 * 2 ^ b by rw [Nat.pow_succ, Nat.mul_comm], ← Nat.div_div_eq_div_mul, show (e + 2 * num) / 2 = num by omega, Nat.add_sub_cancel]
        constructor
        · intro h
          exact .inr ⟨Nat.succ_pos _, h⟩
        · rintro (⟨h, _⟩ | ⟨_, h⟩)
          · exact absurd h (Nat.succ_ne_zero _)
          · exact h
    by_cases h0 : S 0
    · refine ⟨1 + 2 * num, by rw [Nat.pow_succ]; omega, fun b hb => ?_⟩
      rw [key 1 (by decide)]
      cases b with
      | zero => exact ⟨fun _ => h0, fun _ => .inl ⟨rfl, rfl⟩⟩
      | succ b =>
        rw [Nat.add_sub_cancel, ← h2 b (by omega)]
        constructor
        · rintro (⟨h, _⟩ | ⟨_, h⟩)
          · exact absurd h (Nat.succ_ne_zero _)
          · exact h
        · intro h
          exact .inr ⟨Nat.succ_pos _, h⟩
    · refine ⟨0 + 2 * num, by rw [Nat.pow_succ]; omega, fun b hb => ?_⟩
      rw [key 0 (by decide)]
      cases b with
      | zero =>
        constructor
        · rintro (⟨_, h⟩ | ⟨h, _⟩)
          · exact absurd h (by decide)
          · exact absurd h (by decide)
        · intro h
          exact absurd h h0
      | succ b =>
        rw [Nat.add_sub_cancel, ← h2 b (by omega)]
        constructor
        · rintro (⟨h, _⟩ | ⟨_, h⟩)
          · exact absurd h (Nat.succ_ne_zero _)
          · exact h
        · intro h
          exact .inr ⟨Nat.succ_pos _, h⟩
theorem setC_congr {g : Good} {lights : Nat → Int} {S S' : Nat → Prop} {n : Nat} {p : Nat → Int} {c : Int} (e : ∀ b, b < n → (S b ↔ S' b)) (h : SetC g lights S n p c) : SetC g lights S' n p c := by
  refine ⟨fun k hk wk => ?_, ?_⟩
  · have m := h.min k hk wk
    obtain ⟨b, h1, h2, h3⟩ := m.ex
    exact ⟨⟨b, h1, (e b h1).mp h2, h3⟩, fun b' hb' hs y hy => m.le b' hb' ((e b' hb').mpr hs) y hy⟩
  · rw [h.cost]
    congr 1
    unfold litSum
    refine sumN_congr n fun b hb => ?_
    by_cases h1 : S b
    · rw [if_pos h1, if_pos ((e b hb).mp h1)]
    · rw [if_neg h1, if_neg fun z => h1 ((e b hb).mpr z)]
/-- what the best of the first so many sets is -/
structure Best (g : Good) (lights : Nat → Int) (n i : Nat) (o : Option Int) : Prop where
  from_ : ∀ c, o = some c → ∃ S p, SetC g lights S n p c
  upto : ∀ num, num < i → num < 2 ^ n → ∀ p c, SetC g lights (inS (bitS num)) n p c → ∃ c0, o = some c0 ∧ c0 ≤ c
theorem Best.done {g : Good} {lights row : Nat → Int} {n i M : Nat} {o : Option Int} (h : Best g lights n i o) (hi : 2 ^ n ≤ i) (hR : IsRow g lights row M) (hn : n ≤ M) (hM : M ≤ g.days.length) (hl : ∀ b, 0 ≤ lights b) (N : NonNegW g.days) (hlf : ∀ l, g.life = some l → 0 ≤ l) : o = some (row n) := by
  obtain ⟨S, p, c, hc, hle⟩ := set_of_row hR hM hl N n hn
  obtain ⟨num, h1, h2⟩ := bits_ex n S
  obtain ⟨c0, rfl, hc0⟩ := h.upto num (by omega) h1 p c (setC_congr (fun b hb => (h2 b hb).symm) hc)
  obtain ⟨S', p', h'⟩ := h.from_ c0 rfl
  have := row_le_set hR hM hl N hlf n hn S' p' c0 h'
  congr 1
  omega
theorem rSetL_r {p : Addr} {k : Int} {v : V} {H : Hp} {Q : Hp → Prop} : rSetL (.ref p) (.int k) v H Q = ∃ xs j, H p = some (.lst xs) ∧ ixN xs.length k = some j ∧ Q (upd H p (.lst (xs.set j v))) := propext ⟨fun ⟨_, xs, _, j, e1, e2, h⟩ => by cases e1; cases e2; exact ⟨xs, j, h⟩, fun ⟨xs, j, h⟩ => ⟨p, xs, k, j, rfl, rfl, h⟩⟩
end Bk

namespace Bk
open PySem PySem.Spec PyProof.Rows L2
/-! ### the row of least costs where wants may be baked on any of all days, and its steps as prices -/
structure IsAny (g : Good) (lights ar : Nat → Int) (c n : Nat) : Prop where
  zero : ar 0 = 0
  unw : ∀ m, m < n → wantN g m = 0 → ar (m + 1) = ar m
  some : ∀ m, m < n → wantN g m ≠ 0 → ChC ar lights (wantP g) c m (ar (m + 1))
  least : ∀ m, m < n → wantN g m ≠ 0 → ∀ v, ChC ar lights (wantP g) c m v → ar (m + 1) ≤ v
theorem wantN_at {g : Good} {k : Nat} {d : Day} (h : g.days[k]? = some d) : wantN g k = d.want := by
  unfold wantN
  rw [h]
theorem wantP_unw {g : Good} {b k : Nat} (hk : k < g.days.length) (h : wantN g k = 0) : wantP g b k = some 0 := by
  have e := wantP_of (g := g) (b := b) (k := k) (z := 0) hk fun z => absurd h z
  rw [e, h, Int.zero_mul]
/-- lit days and prices of loaves by which the first m days' wants cost no more than v -/
structure Cov (g : Good) (lights : Nat → Int) (c m : Nat) (S : Nat → Prop) (p : Nat → Int) (v : Int) : Prop where
  ex : ∀ k, k < m → wantN g k ≠ 0 → ∃ b, b < c ∧ S b ∧ loafP g b k = some (p k)
  le : litSum lights S c + sumN (fun k => wantN g k * p k) m ≤ v
/-! ### prices that are let by -/
/-- by the document's words: whatever day of baking, whatever stretch -/
def Lets (g : Good) (lights pr : Nat → Int) (n : Nat) : Prop := ∀ b f m s, b < n → f + m ≤ n → segP (wantP g b) f m = some s → sumN (fun i => pr (f + i)) m ≤ lights b + s
end Bk

namespace Bk
open PySem PySem.Spec PyProof.Rows L2
/-! ### lists of larger ints, shown -/
/-! ### the row anywhere, number by number -/
theorem ChC.congr {row row' lights : Nat → Int} {w : Nat → Nat → Option Int} {c m : Nat} {v : Int} (e : ∀ f, f ≤ m → row f = row' f) (h : ChC row lights w c m v) : ChC row' lights w c m v := by
  obtain ⟨b, f, s, hb, hf, hs, hv⟩ := h
  exact ⟨b, f, s, hb, hf, hs, by rw [← e f hf]; exact hv⟩
theorem IsAny.init (g : Good) (lights : Nat → Int) (c : Nat) : IsAny g lights (rowF [0]) c 0 := ⟨rfl, fun m h => by omega, fun m h => by omega, fun m h => by omega⟩
theorem IsAny.snoc {g : Good} {lights : Nat → Int} {rs : List Int} {c n : Nat} {v : Int} (h : IsAny g lights (rowF rs) c n) (hl : rs.length = n + 1) (h0 : wantN g n = 0 → v = rowF rs n) (h1 : wantN g n ≠ 0 → ChC (rowF rs) lights (wantP g) c n v ∧ ∀ u, ChC (rowF rs) lights (wantP g) c n u → v ≤ u) :
    IsAny g lights (rowF (rs ++ [v])) c (n + 1) := by
  have e : ∀ f, f ≤ n → rowF rs f = rowF (rs ++ [v]) f := fun f hf => (rowF_snoc (by omega)).symm
  have e' : ∀ f, f ≤ n → rowF (rs ++ [v]) f = rowF rs f := fun f hf => rowF_snoc (by omega)
  have el : rowF (rs ++ [v]) (n + 1) = v := rowF_last hl
  refine ⟨by rw [e' 0 (by omega)]; exact h.zero, fun m hm hw => ?_, fun m hm hw => ?_, fun m hm hw u hu => ?_⟩
  · by_cases hlt : m < n
    · rw [e' (m + 1) (by omega), e' m (by omega)]
      exact h.unw m hlt hw
    · have : m = n := by omega
      subst this
      rw [el, e' m (by omega)]
      exact h0 hw
  · by_cases hlt : m < n
    · rw [e' (m + 1) (by omega)]
      exact (h.some m hlt hw).congr fun f hf => e f (by omega)
    · have : m = n := by omega
      subst this
      rw [el]
      exact (h1 hw).1.congr e
  · by_cases hlt : m < n
    · rw [e' (m + 1) (by omega)]
      exact h.least m hlt hw u (hu.congr fun f hf => e' f (by omega))
    · have : m = n := by omega
      subst this
      rw [el]
      exact (h1 hw).2 u (hu.congr e')
theorem IsAny.ext {g : Good} {lights ar ar' : Nat → Int} {c n : Nat} (h : IsAny g lights ar c n) (h' : IsAny g lights ar' c n) : ∀ m, m ≤ n → ar m = ar' m := by
  intro m
  induction m using Nat.strongRecOn with
  | ind m ih =>
    intro hm
    cases m with
    | zero => rw [h.zero, h'.zero]
    | succ m =>
      by_cases hw : wantN g m = 0
      · rw [h.unw m (by omega) hw, h'.unw m (by omega) hw]
        exact ih m (by omega) (by omega)
      · have e : ∀ f, f ≤ m → ar f = ar' f := fun f hf => ih f (by omega) (by omega)
        have a := h.least m (by omega) hw _ ((h'.some m (by omega) hw).congr fun f hf => (e f hf).symm)
        have b := h'.least m (by omega) hw _ ((h.some m (by omega) hw).congr e)
        omega
/-- the steps of the row anywhere, as told prices -/
structure IsPrices (g : Good) (lights : Nat → Int) (ps : List Int) (n : Nat) : Prop where
  len : ps.length = n
  row : ∃ ar, IsAny g lights ar n n ∧ ∀ k, k < n → rowF ps k = ar (k + 1) - ar k
theorem IsPrices.ext {g : Good} {lights : Nat → Int} {ps ps' : List Int} {n : Nat} (h : IsPrices g lights ps n) (h' : IsPrices g lights ps' n) : ps = ps' := by
  obtain ⟨ar, h1, h2⟩ := h.row
  obtain ⟨ar', h3, h4⟩ := h'.row
  have e := h1.ext h3
  apply List.ext_getElem
  · rw [h.len, h'.len]
  · intro i hi hi'
    have a := h2 i (by rw [← h.len]; exact hi)
    have b := h4 i (by rw [← h.len]; exact hi)
    rw [e (i + 1) (by have := h.len; omega), e i (by have := h.len; omega)] at a
    unfold rowF at a b
    rw [List.getD_eq_getElem?_getD, List.getElem?_eq_getElem hi] at a
    rw [List.getD_eq_getElem?_getD, List.getElem?_eq_getElem hi'] at b
    simp only [Option.getD_some] at a b
    omega
theorem cutV_from (xs : List V) (i : Nat) : cutV xs (some (i : Int)) none = xs.drop i := by
  unfold cutV
  rw [HT.sIx_nat]
  show (xs.drop (min i xs.length)).take (xs.length - min i xs.length) = xs.drop i
  by_cases hi : i ≤ xs.length
  · rw [Nat.min_eq_left hi, List.take_of_length_le (by rw [List.length_drop]; omega)]
  · rw [Nat.min_eq_right (by omega), List.drop_of_length_le (Nat.le_refl _), List.drop_of_length_le (show xs.length ≤ i by omega), List.take_nil]
end Bk

namespace Bk
open PySem PySem.Spec PyProof.Rows L2
/-! ### by how much the prices of stretches that end with a day are more than they cost -/
def kad (w : Nat → Option Int) (pr : Nat → Int) : Nat → Int
  | 0 => 0
  | k + 1 => match w k with
    | none => 0
    | some c => if kad w pr k + pr k - c > 0 then kad w pr k + pr k - c else 0
/-- prices of a good's first n days -/
def IsPr (g : Good) (n : Nat) (d : PyData) (ns : List Int) : Prop := d = .list (ns.map PyData.int) ∧ ns.length = n ∧ ∀ k, k < n → wantN g k = 0 → rowF ns k = 0
theorem all_wholeD : ∀ {ds : List PyData}, ds.all wholeD = true → ∃ ns : List Int, ds = ns.map PyData.int
  | [], _ => ⟨[], rfl⟩
  | d :: r, h => by
    rw [List.all_cons, Bool.and_eq_true] at h
    obtain ⟨ns, e⟩ := all_wholeD h.2
    cases d with
    | int i => exact ⟨i :: ns, by rw [e]; rfl⟩
    | _ => cases h.1
theorem wholeD_ints (ns : List Int) : (ns.map PyData.int).all wholeD = true := by
  rw [List.all_eq_true]
  intro x hx
  obtain ⟨i, _, rfl⟩ := List.mem_map.mp hx
  rfl
/-- the days without a want, and whether the prices there are 0 -/
def zeros (g : Good) (ns : List Int) (i : Nat) : List Bool := (List.range i).filterMap fun k => if wantN g k = 0 then some (decide (rowF ns k = 0)) else none
end Bk

namespace Bk
open PySem PySem.Spec PyProof.Rows L2
/-! ### a block cut in two: what holds between the parts -/
section
variable {A1 A2 A3 A4 A5 A6 B : TS} {D : Ends} {σ : L2.St} {H : Hp} (Pm : L2.St → Hp → Prop)
theorem seq1 (hB : ∀ σ' H', Pm σ' H' → B D σ' H') (hA : ∀ N : L2.St → Hp → Prop, (∀ σ' H', Pm σ' H' → N σ' H') → A1 { D with nx := N } σ H) : tSeq A1 B D σ H := hA _ hB
theorem seq2 (hB : ∀ σ' H', Pm σ' H' → B D σ' H') (hA : ∀ N : L2.St → Hp → Prop, (∀ σ' H', Pm σ' H' → N σ' H') → tSeq A1 A2 { D with nx := N } σ H) : tSeq A1 (tSeq A2 B) D σ H := hA _ hB
theorem seq6 (hB : ∀ σ' H', Pm σ' H' → B D σ' H') (hA : ∀ N : L2.St → Hp → Prop, (∀ σ' H', Pm σ' H' → N σ' H') → tSeq A1 (tSeq A2 (tSeq A3 (tSeq A4 (tSeq A5 A6)))) { D with nx := N } σ H) : tSeq A1 (tSeq A2 (tSeq A3 (tSeq A4 (tSeq A5 (tSeq A6 B))))) D σ H := hA _ hB
end
end Bk

namespace Bk
open PySem PySem.Spec PyProof.Rows L2
/-! ### comprehensions with two fors -/
def Lc1R (J : It) (g : TG) (tt : TT) (te : TE) (vs : List Nat) (σ : L2.St) (D : Addr) (H1 : Hp) (Qd : Hp → Prop) : Prop := ∃ W : Nat → Nat → Hp → Prop, (∃ m, W 0 m H1) ∧ ∀ i m H, W i m H →
  (J.stop i H ∧ Qd H) ∨ (J.go i H ∧ ∃ Nx : Hp → Prop, (∀ H', Nx H' → ∃ m', m' < m ∧ W (i + 1) m' H') ∧ ∀ x H', J.yld i H x H' → g x (wipe σ vs) H' fun σ2 H2 => wipe σ2 vs = wipe σ vs ∧ tt σ2 H2 fun b H3 =>
    if b = true then te σ2 H3 fun y H4 => ∃ acc, H4 D = some (.lst acc) ∧ acc.length < sizeLine ∧ Nx (upd H4 D (.lst (acc ++ [y]))) else Nx H3)
def Lc2R (J : It) (g : TG) (tt : TT) (wi1 : TI) (g1 : TG) (tt1 : TT) (te : TE) (vs vs1 : List Nat) (σ : L2.St) (D : Addr) (H1 : Hp) (Qd : Hp → Prop) : Prop := ∃ W : Nat → Nat → Hp → Prop, (∃ m, W 0 m (upd H1 D (.lst []))) ∧ ∀ i m H, W i m H →
  (J.stop i H ∧ Qd H) ∨ (J.go i H ∧ ∃ Nx : Hp → Prop, (∀ H', Nx H' → ∃ m', m' < m ∧ W (i + 1) m' H') ∧ ∀ x H', J.yld i H x H' → g x (wipe σ vs) H' fun σ2 H2 => wipe σ2 vs = wipe σ vs ∧ tt σ2 H2 fun b H3 =>
    if b = true then wi1 σ2 H3 fun J1 H4 => Lc1R J1 g1 tt1 te vs1 σ2 D H4 Nx else Nx H3)
theorem tLc2_eq {wi wi1 : TI} {g g1 : TG} {tt tt1 : TT} {te : TE} {vs vs1 : List Nat} {σ : L2.St} {H : Hp} {Q : VK} : tLc2 wi g tt wi1 g1 tt1 te vs vs1 σ H Q = wi σ H fun J H1 => ∀ D, H1 D = none → Lc2R J g tt wi1 g1 tt1 te vs vs1 σ D H1 (fun H => Q (.ref D) H) := rfl
section
variable {J : It} {n : Nat} {G : Hp → Prop} {Y : Nat → Hp → V → Hp → Prop} {g g1 : TG} {tt tt1 : TT} {wi1 : TI} {te : TE} {vs vs1 : List Nat} {σ : L2.St} {H1 : Hp} {D : Addr} {Qd : Hp → Prop}
theorem Lc1R.by (w : Walk J n G Y) (Pv : Nat → Hp → Prop) (h0 : Pv 0 H1) (hG : ∀ i H, i ≤ n → Pv i H → G H)
    (hs : ∀ i x H H', i < n → Pv i H → Y i H x H' → g x (wipe σ vs) H' fun σ2 H2 => wipe σ2 vs = wipe σ vs ∧ tt σ2 H2 fun b H3 =>
      if b = true then te σ2 H3 fun y H4 => ∃ acc, H4 D = some (.lst acc) ∧ acc.length < sizeLine ∧ Pv (i + 1) (upd H4 D (.lst (acc ++ [y]))) else Pv (i + 1) H3) (hd : ∀ H, Pv n H → Qd H) : Lc1R J g tt te vs σ D H1 Qd := by
  refine ⟨fun i m H => m = n - i ∧ i ≤ n ∧ Pv i H, ⟨n, by simp, Nat.zero_le _, h0⟩, ?_⟩
  rintro i m H ⟨rfl, hi, p⟩
  have q := hG i H hi p
  by_cases hlt : i < n
  · refine .inr ⟨w.goes i H hlt q, Pv (i + 1), fun H' p' => ⟨n - (i + 1), by omega, rfl, hlt, p'⟩, fun x H' y => hs i x H H' hlt p (w.yields i H x H' hlt q y)⟩
  · have e : i = n := by omega
    subst e
    exact .inl ⟨w.stops H q, hd H p⟩
theorem Lc2R.by (w : Walk J n G Y) (Pv : Nat → Hp → Prop) (h0 : Pv 0 (upd H1 D (.lst []))) (hG : ∀ i H, i ≤ n → Pv i H → G H)
    (hs : ∀ i x H H', i < n → Pv i H → Y i H x H' → g x (wipe σ vs) H' fun σ2 H2 => wipe σ2 vs = wipe σ vs ∧ tt σ2 H2 fun b H3 =>
      if b = true then wi1 σ2 H3 fun J1 H4 => Lc1R J1 g1 tt1 te vs1 σ2 D H4 (Pv (i + 1)) else Pv (i + 1) H3) (hd : ∀ H, Pv n H → Qd H) : Lc2R J g tt wi1 g1 tt1 te vs vs1 σ D H1 Qd := by
  refine ⟨fun i m H => m = n - i ∧ i ≤ n ∧ Pv i H, ⟨n, by simp, Nat.zero_le _, h0⟩, ?_⟩
  rintro i m H ⟨rfl, hi, p⟩
  have q := hG i H hi p
  by_cases hlt : i < n
  · refine .inr ⟨w.goes i H hlt q, Pv (i + 1), fun H' p' => ⟨n - (i + 1), by omega, rfl, hlt, p'⟩, fun x H' y => hs i x H H' hlt p (w.yields i H x H' hlt q y)⟩
  · have e : i = n := by omega
    subst e
    exact .inl ⟨w.stops H q, hd H p⟩
end
/-! ### triples of numbers on the heap -/
/-- a reach and how many -/
abbrev Tr := Int × Int × Int
def trV (t : Tr) : List V := [.int t.1, .int t.2.1, .int t.2.2]
inductive Trs (H : Hp) : List V → List Tr → Prop
  | nil : Trs H [] []
  | cons {p : Addr} {t : Tr} {vs : List V} {ts : List Tr} : H p = some (.tup (trV t)) → Trs H vs ts → Trs H (.ref p :: vs) (t :: ts)
theorem Trs.same {H H' : Hp} (s : Same H H') : ∀ {vs : List V} {ts : List Tr}, Trs H vs ts → Trs H' vs ts
  | _, _, .nil => .nil
  | _, _, .cons e h => .cons (s _ _ e) (h.same s)
theorem Trs.mut {H : Hp} {D : Addr} {xs : List V} {o : HO} (hD : H D = some (.lst xs)) : ∀ {vs : List V} {ts : List Tr}, Trs H vs ts → Trs (upd H D o) vs ts
  | _, _, .nil => .nil
  | _, _, .cons (p := p) e h => .cons (by rw [upd_ne (fun z => by rw [z, hD] at e; cases e)]; exact e) (h.mut hD)
theorem Trs.app {H : Hp} : ∀ {vs ws : List V} {ts us : List Tr}, Trs H vs ts → Trs H ws us → Trs H (vs ++ ws) (ts ++ us)
  | _, _, _, _, .nil, h => h
  | _, _, _, _, .cons e h, h2 => .cons e (h.app h2)
theorem Trs.length {H : Hp} : ∀ {vs : List V} {ts : List Tr}, Trs H vs ts → vs.length = ts.length
  | _, _, .nil => rfl
  | _, _, .cons _ h => by rw [List.length_cons, List.length_cons, h.length]
theorem Trs.get {H : Hp} : ∀ {vs : List V} {ts : List Tr} {i : Nat} {v : V}, Trs H vs ts → vs[i]? = some v → ∃ p t, v = .ref p ∧ ts[i]? = some t ∧ H p = some (.tup (trV t))
  | _, _, 0, v, .cons e h, q => by cases q; exact ⟨_, _, rfl, rfl, e⟩
  | _, _, i + 1, v, .cons e h, q => h.get (i := i) q
/-- a list of such -/
def TrL (H : Hp) (v : V) (ts : List Tr) : Prop := ∃ a vs, v = .ref a ∧ H a = some (.lst vs) ∧ Trs H vs ts
theorem TrL.same {H H' : Hp} {v : V} {ts : List Tr} (h : TrL H v ts) (s : Same H H') : TrL H' v ts := by
  obtain ⟨a, vs, e, h1, h2⟩ := h
  exact ⟨a, vs, e, s _ _ h1, h2.same s⟩
end Bk

/-! an own error class over ValueError whose __init__ begins with super().__init__(..) -/
namespace Bk
open PySem PySem.Spec PyProof.Rows L2
/-- what the written part says, besides OexC, of such a class at C and of its __init__, with the cell cc and the code cda -/
structure SupC (P : Program) (K : PySem.W.Frag) (C cc cda : Addr) : Prop where
  code : ∃ ccl cdd vs ccs file tf, K.lookup cda = some ⟨ccl, cdd, .fields vs, ccs⟩ ∧ vs[2]? = some (.str file tf) ∧ ((P.main.file : Str) == file) = true
  cell : ∃ cl cld csl, K.lookup cc = some ⟨cl, cld, .cell (some (.ref C)), csl⟩
  sup : PySem.W.ks_superIn K C C "__init__" = some (some (.builtin "ValueError.__init__"))
  mro : PySem.W.mroIn K C (.ref C) = some true
  sub : PySem.W.subIn K (.ref C) (.type "ValueError") = some true
  super : PySem.W.nsIn K mainGlobals "super" = some none
  opq : PySem.W.nsIn K cStatics "thirdparty.any" = some none
  top : (P.main.scope.names.lookup ("super" : Str)).isSome = false
section
open NdefX
variable {CX : CXT} {P : Program} {w : World} {K : PySem.W.Frag} {mg : Str → Option Value} {base : Heap} {N pr : List Str} {f C cc cda : Addr} {k : Nat} {sp : Sp}
  {qual : Str} {params : Arguments} {scope : Scope} {dV kV doc pm ct oc : Value} {an od : Option Addr} {osl : Array (Option Value)} {e : Expr} {es : List Expr} {rest : List Stmt} {p0 p1 p2 pos posE pa : Pos} {ann : Option Expr} {more : List Arg}
end
end Bk

namespace Bk
open PySem PySem.Spec PyProof.Rows L2
/-! ### 1 << k -/
def rOne : R2 := fun x y H Q => ∃ k : Nat, x = .int 1 ∧ y = .int (k : Int) ∧ k ≤ 134217727 ∧ Q (.int (2 ^ k)) H
theorem rOne_i {j : Int} {H : Hp} {Q : VK} : rOne (.int 1) (.int j) H Q = ∃ k : Nat, j = (k : Int) ∧ k ≤ 134217727 ∧ Q (.int (2 ^ k)) H := propext ⟨fun ⟨k, _, e2, h⟩ => by cases e2; exact ⟨k, rfl, h⟩, fun ⟨k, e, h⟩ => ⟨k, rfl, by rw [e], h⟩⟩
theorem rIsB_b {a b : Bool} {H : Hp} {Q : VK} : rIsB (.bl a) (.bl b) H Q = Q (.bl (decide (a = b))) H := propext ⟨fun ⟨_, _, e1, e2, h⟩ => by cases e1; cases e2; exact h, fun h => ⟨a, b, rfl, rfl, h⟩⟩
theorem rNotB_b {a b : Bool} {H : Hp} {Q : VK} : rNotB (.bl a) (.bl b) H Q = Q (.bl (!decide (a = b))) H := propext ⟨fun ⟨_, _, e1, e2, h⟩ => by cases e1; cases e2; exact h, fun h => ⟨a, b, rfl, rfl, h⟩⟩
/-! ### dicts whose keys are days -/
def keyN (ns : List Nat) : List Key := ns.map fun n => Sum.inl ((n : Nat) : Int)
def addN (ns : List Nat) (n : Nat) : List Nat := if n ∈ ns then ns else ns ++ [n]
def rSorD : List V → Hp → VK → Prop := fun xs H Q => ∃ (a : Addr) (kvs : List (Key × V)) (ks : List Int), xs = [.ref a] ∧ Rd H a (.dK kvs) ∧ kvs.map (·.1) = ks.map Sum.inl ∧ ks.length < 64 ∧ ∀ (ys : List Int) (p : Addr), ys.Perm ks → ys.Pairwise (· ≤ ·) → H p = none → Q (.ref p) (upd H p (.lst (ys.map V.int)))
theorem rSorD_r {p : Addr} {H : Hp} {Q : VK} : rSorD [.ref p] H Q = ∃ (kvs : List (Key × V)) (ks : List Int), Rd H p (.dK kvs) ∧ kvs.map (·.1) = ks.map Sum.inl ∧ ks.length < 64 ∧ ∀ (ys : List Int) (q : Addr), ys.Perm ks → ys.Pairwise (· ≤ ·) → H q = none → Q (.ref q) (upd H q (.lst (ys.map V.int))) :=
  propext ⟨fun ⟨_, kvs, ks, e, h⟩ => by cases e; exact ⟨kvs, ks, h⟩, fun ⟨kvs, ks, h⟩ => ⟨p, kvs, ks, rfl, h⟩⟩
end Bk

namespace Bk
open PySem PySem.Spec PyProof.Rows L2
/-! ### a def of the text that may let an exception out -/
structure DefX (P : Program) (w : World) (K : PySem.W.Frag) (mg : Str → Option Value) (base : Heap) (x : Str) (k : Nat) (ps : List Str) (sp : Sp) : Prop where
  ex : ∃ (f : Addr) (fd : FuncData), mg x = some (.ref f) ∧ PySem.W.keepIn K (.ref f) = true ∧ Binds K fd ps [] ∧ FnOk P w K mg base (L2.CX P w) k f fd ps sp
/-! ### {x} of a number or None -/
def smV : V → Prop
  | .non => True
  | .int i => i.natAbs < 10 ^ 60
  | _ => False
def tFmtO (te : TE) : TE := fun σ H Q => te σ H fun x H1 => smV x ∧ ∀ y : Str, y.length ≤ 70 → Q (.str y) H1
theorem log60 {n : Nat} (h : n < 10 ^ 60) : n.log2 < 1920 := by
  by_cases h0 : n = 0
  · subst h0
    decide
  · have : n.log2 < 200 := (Nat.log2_lt h0).mpr (Nat.lt_of_lt_of_le h (by decide))
    omega
/-! ### the __init__ of an error with two fields -/
def spInit2 (K : PySem.W.Frag) (C : Addr) (f1 f2 : Str) : Sp := fun vs H Q _ => ∃ (a : Addr) (u v : V), vs = [.ref a, u, v] ∧ smV u ∧ smV v ∧ H a = some (exo a C none) ∧ ∀ dx, H dx = none → dx ≠ a → Q .non (upd (upd (upd H dx (exd dx [(f1, u)])) a (exo a C (some dx))) dx (exd dx [(f2, v), (f1, u)]))
end Bk

namespace Bk
open PySem PySem.Spec PyProof.Rows L2
/-! ### what is wrong with what is no bakery: the first thing -/
def fbD : Nat → List PyData → Option Nat
  | _, [] => none
  | i, d :: r => if dayB d = true then fbD (i + 1) r else some i
def badG (n : Nat) (d : PyData) : Option (Option Nat) := if goodFormB n d = true then (match d with
    | .tuple [.list ds, _] => (fbD 0 ds).map some
    | _ => some none) else some none
def wgD (n : Nat) : Nat → List PyData → Option (Nat × Option Nat)
  | _, [] => none
  | i, g :: r => match badG n g with
    | none => wgD n (i + 1) r
    | some o => some (i, o)
def wrongD (d : PyData) : Option (Option Nat × Option Nat) := if bakFormB d = true then (match d with
    | .tuple [.list ls, _, .list gs] => (wgD ls.length 0 gs).map fun p => (some p.1, p.2)
    | _ => some (none, none)) else some (none, none)
/-! ### raising -/
def clsBody : Stmt → List Stmt
  | .ClassDef (body := b) .. => b
  | _ => []
def clsM (st : Stmt) (j : Nat) : Stmt := (clsBody st).getD j (.Pass ⟨0, 0, 0, 0⟩)
/-- an error class with two fields, as the top has written it -/
structure Err2 (P : Program) (w : World) (K : PySem.W.Frag) (mg : Str → Option Value) (base : Heap) (x : Str) (C : Addr) (f1 f2 : Str) : Prop where
  g : mg x = some (.ref C)
  T : OexC K C
  init : ∃ (fI : Addr) (fd : FuncData), PySem.W.findIn K (.ref C) "__init__" = some (some (.ref fI)) ∧ PySem.W.typeIn K (.ref fI) = some (.type "function") ∧ Binds K fd ["self", f1, f2] [] ∧ FnOk P w K mg base CX0 1 fI fd ["self", f1, f2] (spInit2 K C f1 f2)
def rRaise2 (K : PySem.W.Frag) (C : Addr) (f1 f2 : Str) (W : WX) (σ : L2.St) (vs : List V) (H1 : Hp) : Prop := vs.length ≤ 1000 ∧ ∀ a, H1 a = none → spInit2 K C f1 f2 (.ref a :: (vs ++ [])) (upd H1 a (exo a C none))
  (fun v H2 => v = .non ∧ ∃ (d : Addr) (fs : List (Str × V)), H2 a = some (exo a C (some d)) ∧ H2 d = some (exd d fs) ∧ H1 d = none ∧ W (.ref C) (some d) σ (upd (del H2 a) d (.xd fs))) (fun _ _ _ => False)
def tRaise2 (K : PySem.W.Frag) (C : Addr) (f1 f2 : Str) (W : WX) (ta : TA) : TS := fun _ σ H => ta σ H fun vs H1 => rRaise2 K C f1 f2 W σ vs H1
end Bk

namespace Bk
open PySem PySem.Spec PyProof.Rows L2
/-! ### + of any two lists that can be read -/
def rCatL (K : PySem.W.Frag) : R2 := fun x y H Q => ∃ (l b : Addr) (xs zs : List V), x = .ref l ∧ y = .ref b ∧ SqL K H l xs ∧ SqL K H b zs ∧ xs.length + zs.length ≤ sizeLine ∧ ∀ p, H p = none → Q (.ref p) (upd H p (.lst (xs ++ zs)))
theorem op_catL {X : Cx} : OpR X (binaryOp .Add) (rCatL X.K) := by
  intro pins s σ H x y v u Q I rx ry h
  obtain ⟨l, b, xs, zs, rfl, rfl, hl, hb, hz, q⟩ := h
  cases rx
  cases ry
  obtain ⟨i1, r1, p1, z1⟩ := I.list hl
  obtain ⟨i2, r2, p2, z2⟩ := I.list hb
  have e1 := r1.length
  have e2 := r2.length
  obtain ⟨⟨k1, d1, t1, s1⟩, n1, g1, c1, f1, w1⟩ := p1
  obtain ⟨⟨k2, d2, t2, s2⟩, n2, g2, c2, f2, w2⟩ := p2
  simp only at c1 f1 w1 c2 f2 w2
  subst c1 f1 w1 c2 f2 w2
  refine concat_meets ⟨_, g1, rfl⟩ ⟨_, g2, rfl⟩ noFill_list_add seq_list_add PySem.F.slot_list_add PySem.F.entry_list_add (PySem.F.args_list_add_2 _ _) (list_addW l b i1.toArray i2.toArray n1 n2 none none s1 s2 (by rw [List.size_toArray, List.size_toArray]; omega)) ⟨g1, g2, ?_⟩
  rw [show i1.toArray ++ i2.toArray = (i1 ++ i2).toArray by simp]
  exact ⟨.ref _, _, I.lnew (t' := s.toks) (r1.append r2) (by rw [List.length_append]; omega), rfl, q _ I.fresh⟩
theorem rCatL_r {K : PySem.W.Frag} {l b : Addr} {H : Hp} {Q : VK} : rCatL K (.ref l) (.ref b) H Q = ∃ xs zs, SqL K H l xs ∧ SqL K H b zs ∧ xs.length + zs.length ≤ sizeLine ∧ ∀ p, H p = none → Q (.ref p) (upd H p (.lst (xs ++ zs))) := propext ⟨fun ⟨_, _, xs, zs, e1, e2, h⟩ => by cases e1; cases e2; exact ⟨xs, zs, h⟩, fun ⟨xs, zs, h⟩ => ⟨l, b, xs, zs, rfl, rfl, h⟩⟩
theorem rSlT_r {K : PySem.W.Frag} {a : Addr} {lo hi : Option Int} {H : Hp} {Q : VK} : rSlT K (.ref a) lo hi H Q = ∃ xs, SqT K H a xs ∧ ¬ (HT.sIx xs.length 0 lo = 0 ∧ HT.sIx xs.length xs.length hi = xs.length) ∧ ∀ p, H p = none → Q (.ref p) (upd H p (.tup (cutV xs lo hi))) := propext ⟨fun ⟨_, xs, e, h⟩ => by cases e; exact ⟨xs, h⟩, fun ⟨xs, h⟩ => ⟨a, xs, rfl, h⟩⟩
def rListOf (K : PySem.W.Frag) : List V → Hp → VK → Prop := fun xs H Q => ∃ p ys, xs = [.ref p] ∧ (SqL K H p ys ∨ SqT K H p ys) ∧ ∀ l, H l = none → Q (.ref l) (upd H l (.lst ys))
theorem call_listOf {X : Cx} : CallR X (.type "list") (rListOf X.K) := call_list_of
theorem rListOf_r {K : PySem.W.Frag} {p : Addr} {H : Hp} {Q : VK} : rListOf K [.ref p] H Q = ∃ ys, (SqL K H p ys ∨ SqT K H p ys) ∧ ∀ l, H l = none → Q (.ref l) (upd H l (.lst ys)) := propext ⟨fun ⟨_, ys, e, h⟩ => by cases e; exact ⟨ys, h⟩, fun ⟨ys, h⟩ => ⟨p, ys, rfl, h⟩⟩
end Bk

namespace Bk
open PySem PySem.Spec PyProof.Rows L2
/-! ### steady bakeries -/
structure Steady (g : Good) : Prop where
  nofine : ∀ d ∈ g.days, d.fine = none
  never : ∀ k d e, g.days[k]? = some d → g.days[k + 1]? = some e → e.loaf ≤ d.loaf + d.keep
theorem keepsL_head {ds : List Day} {b k : Nat} {d : Day} (hb : ds[b]? = some d) (hk : b < k) : keepsL ds b k = d.keep + keepsL ds (b + 1) k := by
  unfold keepsL
  obtain ⟨hi, e⟩ := List.getElem?_eq_some_iff.mp hb
  rw [List.drop_eq_getElem_cons hi, e, show k - b = (k - (b + 1)) + 1 by omega, List.take_succ_cons, List.map_cons, List.sum_cons]
/-- a loaf baked later, for a day behind both, costs no more -/
theorem loaf_later {g : Good} (S : Steady g) {k : Nat} (hk : k < g.days.length) : ∀ (n b : Nat), b + n ≤ k → ∀ z, loafP g b k = some z → ∃ y, loafP g (b + n) k = some y ∧ y ≤ z
  | 0, b, _, z, h => ⟨z, h, Int.le_refl z⟩
  | n + 1, b, hn, z, h => by
    have hd : g.days[b]? = some g.days[b] := List.getElem?_eq_getElem (by omega)
    have he : g.days[b + 1]? = some g.days[b + 1] := List.getElem?_eq_getElem (by omega)
    have st := S.never b _ _ hd he
    generalize g.days[b] = d at hd st
    generalize g.days[b + 1] = e at he st
    have step : ∃ y, loafP g (b + 1) k = some y ∧ y ≤ z := by
      obtain ⟨x, hx, hxz⟩ := loafP_ext' hd h
      obtain ⟨hl, hkp⟩ := (ext_keep (show b ≤ k by omega)).mp hx
      have e2 : extP g (b + 1) k = some (keepsL g.days (b + 1) k) := (ext_keep (show b + 1 ≤ k by omega)).mpr ⟨fun l hl' => by have := hl l hl'; omega, rfl⟩
      refine ⟨e.loaf + keepsL g.days (b + 1) k, by rw [loafP_ext he, e2]; rfl, ?_⟩
      have := keepsL_head hd (show b < k by omega)
      omega
    obtain ⟨y, hy, hyz⟩ := step
    obtain ⟨y2, hy2, h2⟩ := loaf_later S hk n (b + 1) (by omega) y hy
    exact ⟨y2, by rw [show b + (n + 1) = b + 1 + n by omega]; exact hy2, by omega⟩
theorem want_later {g : Good} (S : Steady g) (N : NonNegW g.days) {b c k : Nat} (hk : k < g.days.length) (hbc : b ≤ c) (hck : c ≤ k) {z : Int} (h : wantP g b k = some z) : ∃ y, wantP g c k = some y ∧ y ≤ z := by
  by_cases hw : wantN g k = 0
  · rw [wantP_unw hk hw] at h ⊢
    exact ⟨_, h, Int.le_refl _⟩
  · rcases wantP_inv h with ⟨e, _⟩ | ⟨y, e1, e2⟩
    · exact absurd e hw
    · obtain ⟨y2, h1, h2⟩ := loaf_later S hk (c - b) b (by omega) y e1
      rw [show b + (c - b) = c by omega] at h1
      refine ⟨wantN g k * y2, wantP_of hk fun _ => h1, ?_⟩
      rw [e2]
      exact Int.mul_le_mul_of_nonneg_left h2 (wantN_nonneg N k)
theorem seg_later {g : Good} (S : Steady g) (N : NonNegW g.days) {b c f : Nat} (hbc : b ≤ c) (hcf : c ≤ f) : ∀ (m : Nat) (s : Int), f + m ≤ g.days.length → segP (wantP g b) f m = some s → ∃ t, segP (wantP g c) f m = some t ∧ t ≤ s
  | 0, s, _, h => by
    rw [segP_zero] at h
    exact ⟨0, segP_zero _ _, by have := Option.some.inj h; omega⟩
  | m + 1, s, hm, h => by
    obtain ⟨x, y, h1, h2, h3⟩ := segP_succ h
    obtain ⟨t, h4, h5⟩ := seg_later S N hbc hcf m x (by omega) h1
    obtain ⟨u, h6, h7⟩ := want_later S N (show f + m < g.days.length by omega) hbc (by omega) h2
    exact ⟨t + u, segP_add h4 h6, by omega⟩
theorem segP_split {w : Nat → Option Int} {f : Nat} : ∀ (n m : Nat) {s : Int}, segP w f (m + n) = some s → ∃ x y, segP w f m = some x ∧ segP w (f + m) n = some y ∧ s = x + y
  | 0, m, s, h => ⟨s, 0, h, segP_zero _ _, by omega⟩
  | n + 1, m, s, h => by
    obtain ⟨x, y, h1, h2, h3⟩ := segP_succ (show segP w f (m + n + 1) = some s from h)
    obtain ⟨u, v, h4, h5, h6⟩ := segP_split n m h1
    exact ⟨u, v + y, h4, segP_add h5 (by rw [show f + m + n = f + (m + n) by omega]; exact h2), by omega⟩
theorem segP_join {w : Nat → Option Int} {f : Nat} : ∀ (n m : Nat) {x y : Int}, segP w f m = some x → segP w (f + m) n = some y → segP w f (m + n) = some (x + y)
  | 0, m, x, y, h1, h2 => by
    rw [segP_zero] at h2
    have := Option.some.inj h2
    rw [Nat.add_zero, h1]
    congr 1
    omega
  | n + 1, m, x, y, h1, h2 => by
    obtain ⟨u, v, h3, h4, h5⟩ := segP_succ h2
    have := segP_add (segP_join n m h1 h3) (show w (f + (m + n)) = some v by rw [show f + (m + n) = f + m + n by omega]; exact h4)
    rw [show m + (n + 1) = m + n + 1 by omega, this]
    congr 1
    omega
/-- any last stretch may as well begin with the day it is baked on -/
theorem diag {g : Good} {lights row : Nat → Int} {n : Nat} (h : IsRow g lights row n) (hn : n ≤ g.days.length) (hl : ∀ b, 0 ≤ lights b) (N : NonNegW g.days) (S : Steady g) {m : Nat} (hm : m < n) : ∀ (f b : Nat) (s : Int), b ≤ m → f ≤ m → segP (wantP g b) f (m + 1 - f) = some s →
    ∃ d t, d ≤ m ∧ segP (wantP g d) d (m + 1 - d) = some t ∧ row d + lights d + t ≤ row f + lights b + s := by
  intro f
  induction f using Nat.strongRecOn with
  | ind f ih =>
    intro b s hb hf hs
    by_cases hbf : b = f
    · subst hbf
      exact ⟨b, s, hb, hs, Int.le_refl _⟩
    · by_cases hlt : f < b
      · -- what would wait is not wanted
        have e : m + 1 - f = (b - f) + (m + 1 - b) := by omega
        rw [e] at hs
        obtain ⟨x, y, h1, h2, h3⟩ := segP_split _ _ hs
        rw [show f + (b - f) = b by omega] at h2
        have fl := row_flat h (f := f) b (by omega) (by omega) fun k hk1 hk2 => by
          obtain ⟨z, hz⟩ := segP_all h1 (k - f) (by omega)
          rw [show f + (k - f) = k by omega] at hz
          exact wantP_late S.nofine hk2 hz
        have nx := segP_nonneg (fun k z e => wantP_nonneg N e) h1
        exact ⟨b, y, hb, h2, by omega⟩
      · have hbf : b < f := by omega
        obtain ⟨f1, rfl⟩ : ∃ f1, f = f1 + 1 := ⟨f - 1, by omega⟩
        rcases h.some f1 (by omega) with ⟨b', f', s', hb', hf', hs', hv⟩ | ⟨⟨d, hd, hw⟩, hv⟩
        · by_cases hbb : b ≤ b'
          · obtain ⟨t, h1, h2⟩ := seg_later S N (f := f1 + 1) hbb (by omega) (m + 1 - (f1 + 1)) s (by omega) hs
            have e : m + 1 - f' = (f1 + 1 - f') + (m + 1 - (f1 + 1)) := by omega
            have j := segP_join (w := wantP g b') (f := f') (m + 1 - (f1 + 1)) (f1 + 1 - f') hs' (by rw [show f' + (f1 + 1 - f') = f1 + 1 by omega]; exact h1)
            rw [← e] at j
            obtain ⟨d, t', h3, h4, h5⟩ := ih f' (by omega) b' _ (by omega) (by omega) j
            have := hl b
            exact ⟨d, t', h3, h4, by omega⟩
          · by_cases hfb : b ≤ f'
            · obtain ⟨t, h1, h2⟩ := seg_later S N (b := b') (c := b) (f := f') (by omega) hfb (f1 + 1 - f') s' (by omega) hs'
              have e : m + 1 - f' = (f1 + 1 - f') + (m + 1 - (f1 + 1)) := by omega
              have j := segP_join (w := wantP g b) (f := f') (m + 1 - (f1 + 1)) (f1 + 1 - f') h1 (by rw [show f' + (f1 + 1 - f') = f1 + 1 by omega]; exact hs)
              rw [← e] at j
              obtain ⟨d, t', h3, h4, h5⟩ := ih f' (by omega) b _ (by omega) (by omega) j
              have := hl b'
              exact ⟨d, t', h3, h4, by omega⟩
            · -- the days from b on are baked on b
              have e1 : f1 + 1 - f' = (b - f') + (f1 + 1 - b) := by omega
              rw [e1] at hs'
              obtain ⟨x, y, h1, h2, h3⟩ := segP_split _ _ hs'
              rw [show f' + (b - f') = b by omega] at h2
              have hrb : row b ≤ row f' + lights b' + x := by
                have := h.least (b - 1) (by omega) (row f' + lights b' + x) (.inl ⟨b', f', x, by omega, by omega, by rw [show b - 1 + 1 - f' = b - f' by omega]; exact h1, rfl⟩)
                rw [show b - 1 + 1 = b by omega] at this
                exact this
              obtain ⟨t, h4, h5⟩ := seg_later S N (b := b') (c := b) (f := b) (by omega) (Nat.le_refl b) (f1 + 1 - b) y (by omega) h2
              have e : m + 1 - b = (f1 + 1 - b) + (m + 1 - (f1 + 1)) := by omega
              have j := segP_join (w := wantP g b) (f := b) (m + 1 - (f1 + 1)) (f1 + 1 - b) h4 (by rw [show b + (f1 + 1 - b) = f1 + 1 by omega]; exact hs)
              rw [← e] at j
              exact ⟨b, _, hb, j, by omega⟩
        · have hw0 : wantN g f1 = 0 := (wantN_at hd).trans hw
          have j := segP_join (w := wantP g b) (f := f1) (m + 1 - (f1 + 1)) 1 (x := 0) (by
            have := segP_add (segP_zero (wantP g b) f1) (show wantP g b (f1 + 0) = some 0 from wantP_unw (by omega) hw0)
            exact this) hs
          rw [show 1 + (m + 1 - (f1 + 1)) = m + 1 - f1 by omega] at j
          obtain ⟨d, t', h3, h4, h5⟩ := ih f1 (by omega) b _ (by omega) (by omega) j
          exact ⟨d, t', h3, h4, by omega⟩
/-! ### the last lit day -/
/-- a cheapest plan for the first j days bakes all from d on, something, on d -/
def EndsAt (g : Good) (lights row : Nat → Int) (j d : Nat) : Prop := d < j ∧ 0 < sumN (fun i => wantN g (d + i)) (j - d) ∧ ∃ s, segP (wantP g d) d (j - d) = some s ∧ row d + lights d + s = row j
def IsLast (g : Good) (lights row : Nat → Int) (j : Nat) : Option Nat → Prop
  | none => ∀ d, ¬ EndsAt g lights row j d
  | some d => EndsAt g lights row j d ∧ ∀ e, d < e → ¬ EndsAt g lights row j e
theorem IsLast.uniq {g : Good} {lights row : Nat → Int} {j : Nat} {o o' : Option Nat} (h : IsLast g lights row j o) (h' : IsLast g lights row j o') : o = o' := by
  cases o with
  | none =>
    cases o' with
    | none => rfl
    | some d => exact absurd h'.1 (h d)
  | some d =>
    cases o' with
    | none => exact absurd h.1 (h' d)
    | some e =>
      congr 1
      by_cases h1 : d < e
      · exact absurd h'.1 (h.2 e h1)
      · by_cases h2 : e < d
        · exact absurd h.1 (h'.2 d h2)
        · omega
theorem wsum_zero {g : Good} {d : Nat} (N : NonNegW g.days) : ∀ m, sumN (fun i => wantN g (d + i)) m = 0 → ∀ i, i < m → wantN g (d + i) = 0
  | 0, _, i, hi => by omega
  | m + 1, h, i, hi => by
    have h : sumN (fun i => wantN g (d + i)) m + wantN g (d + m) = 0 := h
    have a := sumN_nonneg (f := fun i => wantN g (d + i)) m fun k _ => wantN_nonneg N _
    have b := wantN_nonneg N (d + m)
    by_cases e : i = m
    · subst e
      omega
    · exact wsum_zero N m (by omega) i (by omega)
theorem wsum_pos {g : Good} {d m i : Nat} (N : NonNegW g.days) (hi : i < m) (h : 0 < wantN g (d + i)) : 0 < sumN (fun i => wantN g (d + i)) m := by
  have a := sumN_nonneg (f := fun i => wantN g (d + i)) m fun k _ => wantN_nonneg N _
  by_cases e : sumN (fun i => wantN g (d + i)) m = 0
  · have := wsum_zero N m e i hi
    omega
  · omega
section
variable {g : Good} {lights row : Nat → Int} {n : Nat}
/-- of a day without a want nothing changes -/
theorem last_unw (h : IsRow g lights row n) (hn : n ≤ g.days.length) (hl : ∀ b, 0 ≤ lights b) (N : NonNegW g.days) (S : Steady g) {m : Nat} (hm : m < n) (hw : wantN g m = 0) (d : Nat) : EndsAt g lights row (m + 1) d ↔ EndsAt g lights row m d := by
  have er : row (m + 1) = row m := by
    have a := row_up h hl N S.nofine hm
    have b := row_flat h (f := m) (m + 1) (by omega) (by omega) fun k h1 h2 => by
      rw [show k = m by omega]
      exact wantN_zero (by omega) hw
    omega
  constructor
  · rintro ⟨h1, h2, s, h3, h4⟩
    have hdm : d < m := by
      by_cases e : d = m
      · subst e
        rw [show d + 1 - d = 1 by omega] at h2
        have h2 : 0 < 0 + wantN g (d + 0) := h2
        rw [Nat.add_zero, hw] at h2
        omega
      · omega
    rw [show m + 1 - d = (m - d) + 1 by omega] at h2 h3
    obtain ⟨x, y, a1, a2, a3⟩ := segP_succ h3
    rw [show d + (m - d) = m by omega, wantP_unw (by omega) hw] at a2
    have a2 := Option.some.inj a2
    have h2 : 0 < sumN (fun i => wantN g (d + i)) (m - d) + wantN g (d + (m - d)) := h2
    rw [show d + (m - d) = m by omega, hw] at h2
    exact ⟨hdm, by omega, x, a1, by omega⟩
  · rintro ⟨h1, h2, s, h3, h4⟩
    refine ⟨by omega, ?_, s, ?_, by omega⟩
    · rw [show m + 1 - d = (m - d) + 1 by omega]
      show 0 < sumN (fun i => wantN g (d + i)) (m - d) + wantN g (d + (m - d))
      rw [show d + (m - d) = m by omega, hw]
      omega
    · rw [show m + 1 - d = (m - d) + 1 by omega]
      have := segP_add h3 (show wantP g d (d + (m - d)) = some 0 by rw [show d + (m - d) = m by omega]; exact wantP_unw (by omega) hw)
      rw [this, Int.add_zero]
theorem last_wanted (h : IsRow g lights row n) (hn : n ≤ g.days.length) (hl : ∀ b, 0 ≤ lights b) (N : NonNegW g.days) (S : Steady g) {m : Nat} (hm : m < n) (hw : wantN g m ≠ 0) : ∃ d, EndsAt g lights row (m + 1) d := by
  have hp : 0 < wantN g m := by have := wantN_nonneg N m; omega
  rcases h.some m hm with ⟨b, f, s, hb, hf, hs, hv⟩ | ⟨⟨d, hd, hw'⟩, _⟩
  · obtain ⟨d, t, h1, h2, h3⟩ := diag h hn hl N S hm f b s hb hf hs
    have h4 := h.least m hm _ (.inl ⟨d, d, t, h1, h1, h2, rfl⟩)
    refine ⟨d, by omega, wsum_pos N (i := m - d) (by omega) (by rw [show d + (m - d) = m by omega]; exact hp), t, h2, by omega⟩
  · exact absurd ((wantN_at hd).trans hw') hw
/-- it never goes back -/
theorem last_up (h : IsRow g lights row n) (hn : n ≤ g.days.length) (hl : ∀ b, 0 ≤ lights b) (N : NonNegW g.days) (S : Steady g) {m d e : Nat} (hm : m < n) (hw : wantN g m ≠ 0) (hd : EndsAt g lights row m d) (he : IsLast g lights row (m + 1) (some e)) : d ≤ e := by
  by_cases hlt : e < d
  · exfalso
    obtain ⟨d1, d2, s, d3, d4⟩ := hd
    obtain ⟨⟨e1, e2, t, e3, e4⟩, e5⟩ := he
    rw [show m + 1 - e = (m - e) + 1 by omega] at e3
    obtain ⟨x, y, a1, a2, a3⟩ := segP_succ e3
    rw [show e + (m - e) = m by omega] at a2
    obtain ⟨y', b1, b2⟩ := want_later S N (show m < g.days.length by omega) (show e ≤ d by omega) (by omega) a2
    have le : row m ≤ row e + lights e + x := by
      have := h.least (m - 1) (by omega) (row e + lights e + x) (.inl ⟨e, e, x, by omega, by omega, by rw [show m - 1 + 1 - e = m - e by omega]; exact a1, rfl⟩)
      rw [show m - 1 + 1 = m by omega] at this
      exact this
    have sg : segP (wantP g d) d (m + 1 - d) = some (s + y') := by
      rw [show m + 1 - d = (m - d) + 1 by omega]
      exact segP_add d3 (by rw [show d + (m - d) = m by omega]; exact b1)
    have ge := h.least m hm _ (.inl ⟨d, d, _, by omega, by omega, sg, rfl⟩)
    have hp : 0 < wantN g m := by have := wantN_nonneg N m; omega
    exact e5 d hlt ⟨by omega, wsum_pos N (i := m - d) (by omega) (by rw [show d + (m - d) = m by omega]; exact hp), _, sg, by omega⟩
  · omega
end
end Bk

namespace Bk
open PySem PySem.Spec PyProof.Rows L2
def natO (o : Option Nat) : Option Int := o.map fun d => (d : Int)
def natV (o : Option Nat) : V := optV (natO o)
/-- the last lit days of a bakery's first days -/
structure Lasts (g : Good) (ls : List Int) (os : List (Option Nat)) : Prop where
  len : os.length = ls.length + 1
  row : ∃ row, IsRow g (rowF ls) row ls.length ∧ ∀ j o, os[j]? = some o → IsLast g (rowF ls) row j o
theorem EndsAt.congr {g : Good} {lights lights' row row' : Nat → Int} {j d : Nat} (e : ∀ k, k ≤ j → row k = row' k) (el : ∀ k, k < j → lights k = lights' k) (h : EndsAt g lights row j d) : EndsAt g lights' row' j d := by
  obtain ⟨h1, h2, s, h3, h4⟩ := h
  exact ⟨h1, h2, s, h3, by rw [← e d (by omega), ← e j (Nat.le_refl j), ← el d h1]; exact h4⟩
theorem IsLast.of_iff {g g' : Good} {lights lights' row row' : Nat → Int} {j j' : Nat} {o : Option Nat} (e : ∀ d, EndsAt g lights row j d ↔ EndsAt g' lights' row' j' d) (h : IsLast g lights row j o) : IsLast g' lights' row' j' o := by
  cases o with
  | none => exact fun d z => h d ((e d).mpr z)
  | some d => exact ⟨(e d).mp h.1, fun x hx z => h.2 x hx ((e x).mpr z)⟩
theorem Lasts.at_ {g : Good} {ls : List Int} {os : List (Option Nat)} (h : Lasts g ls os) {row : Nat → Int} (hR : IsRow g (rowF ls) row ls.length) {j : Nat} {o : Option Nat} (ho : os[j]? = some o) : IsLast g (rowF ls) row j o := by
  obtain ⟨row', h1, h2⟩ := h.row
  have hj : j < os.length := (List.getElem?_eq_some_iff.mp ho).1
  have hl := h.len
  have e := h1.ext hR
  exact (h2 j o ho).of_iff fun d => ⟨fun z => z.congr (fun k hk => e k (by omega)) fun _ _ => rfl, fun z => z.congr (fun k hk => (e k (by omega)).symm) fun _ _ => rfl⟩
theorem Lasts.uniq {g : Good} {ls : List Int} {os os' : List (Option Nat)} (h : Lasts g ls os) (h' : Lasts g ls os') : os = os' := by
  obtain ⟨row, h1, h2⟩ := h.row
  apply List.ext_getElem?
  intro j
  by_cases hj : j < ls.length + 1
  · have e := List.getElem?_eq_getElem (show j < os.length by rw [h.len]; exact hj)
    have e' := List.getElem?_eq_getElem (show j < os'.length by rw [h'.len]; exact hj)
    rw [e, e', (h2 j _ e).uniq (h'.at_ h1 e')]
  · rw [List.getElem?_eq_none (by rw [h.len]; omega), List.getElem?_eq_none (by rw [h'.len]; omega)]
theorem wantN_take {g : Good} {m k : Nat} (hk : k < m) : wantN ⟨g.days.take m, g.life⟩ k = wantN g k := by
  unfold wantN
  dsimp only
  rw [List.getElem?_take_of_lt hk]
theorem ends_take {g : Good} {lights lights' row : Nat → Int} {m j d : Nat} (hj : j ≤ m) (el : ∀ k, k < m → lights' k = lights k) : EndsAt g lights row j d ↔ EndsAt ⟨g.days.take m, g.life⟩ lights' row j d := by
  have key : d < j → sumN (fun i => wantN ⟨g.days.take m, g.life⟩ (d + i)) (j - d) = sumN (fun i => wantN g (d + i)) (j - d) := fun hd => sumN_congr _ fun i hi => wantN_take (by omega)
  constructor
  · rintro ⟨h1, h2, s, h3, h4⟩
    exact ⟨h1, by rw [key h1]; exact h2, s, by rw [segP_take (by omega) (by omega)]; exact h3, by rw [el d (by omega)]; exact h4⟩
  · rintro ⟨h1, h2, s, h3, h4⟩
    exact ⟨h1, by rw [← key h1]; exact h2, s, by rw [← segP_take (j := m) (by omega) (by omega)]; exact h3, by rw [← el d (by omega)]; exact h4⟩
theorem Lasts.take {g : Good} {ls : List Int} {os : List (Option Nat)} (h : Lasts g ls os) {m : Nat} (hm : m ≤ ls.length) : Lasts ⟨g.days.take m, g.life⟩ (ls.take m) (os.take (m + 1)) := by
  obtain ⟨row, h1, h2⟩ := h.row
  have el : (ls.take m).length = m := by rw [List.length_take]; omega
  refine ⟨by rw [List.length_take, h.len, el]; omega, row, ?_, fun j o ho => ?_⟩
  · rw [el]
    exact row_lights (fun b hb => (rowF_take hb).symm) (h1.take hm)
  · have hj : j < m + 1 := by
      have := (List.getElem?_eq_some_iff.mp ho).1
      rw [List.length_take] at this
      omega
    rw [List.getElem?_take_of_lt hj] at ho
    exact (h2 j o ho).of_iff fun d => ends_take (by omega) fun k hk => rowF_take hk
theorem Steady.take {g : Good} (h : Steady g) (m : Nat) : Steady ⟨g.days.take m, g.life⟩ := by
  refine ⟨fun d hd => h.nofine d (List.mem_of_mem_take hd), fun k d e hd he => ?_⟩
  have hk : k + 1 < m := by
    have := (List.getElem?_eq_some_iff.mp he).1
    rw [List.length_take] at this
    omega
  have hd : (g.days.take m)[k]? = some d := hd
  have he : (g.days.take m)[k + 1]? = some e := he
  rw [List.getElem?_take_of_lt (by omega)] at hd
  rw [List.getElem?_take_of_lt hk] at he
  exact h.never k d e hd he
/-! ### lists of days or None, compared -/
theorem lay_opts : ∀ l : List (Option Int), PyData.canLayAll0 (l.map optD) = true
  | [] => by simp only [List.map, PyData.canLayAll0]
  | none :: r => by simp only [List.map, PyData.canLayAll0, optD, PyData.canLay0, lay_opts r, Bool.and_self]
  | some i :: r => by simp only [List.map, PyData.canLayAll0, optD, PyData.canLay0, lay_opts r, Bool.and_self]
theorem depth_opts : ∀ l : List (Option Int), PyData.depthAll (l.map optD) = 0
  | [] => by simp only [List.map, PyData.depthAll]
  | none :: r => by simp only [List.map, PyData.depthAll, optD, PyData.depth, depth_opts r]; decide
  | some i :: r => by simp only [List.map, PyData.depthAll, optD, PyData.depth, depth_opts r]; decide
theorem shaped_opts (l : List (Option Int)) : SeqAt.shaped (.list (l.map optD)) = true := by
  simp only [SeqAt.shaped, PyData.canLay0, lay_opts, PyData.depth, depth_opts, Bool.true_and]
  decide
theorem ne_nilnil {K : PySem.W.Frag} {H : Hp} {a b : Addr} {Q : VK} (h1 : SqL K H a []) (h2 : SqL K H b []) (q : Q (.bl false) H) : rNeD K (.ref a) (.ref b) H Q := by
  refine ⟨.list [], .list [], .lst h1 .nil, .lst h2 .nil, shaped_opts [], shaped_opts [], ?_⟩
  rw [SeqAt.eqv_refl _ (by simp only [PyData.canLay0, PyData.canLayAll0])]
  exact q
theorem atI_last {α : Type} {xs : List α} {m : Nat} {v : α} (h : xs.length = m + 1) (e : xs[m]? = some v) : atI xs (-1) = some v := by
  have k : ixN xs.length (-1) = some m := by
    rw [h]
    unfold ixN
    rw [if_neg (by decide), if_pos (by omega)]
    congr 1
    omega
  unfold atI
  rw [k]
  exact e
end Bk

namespace Bk
open PySem PySem.Spec PyProof.Rows L2
/-! ### list != []: whatever the list holds -/
def rNeN (K : PySem.W.Frag) : R2 := fun x y H Q => ∃ (l b : Addr) (xs : List V), x = .ref l ∧ y = .ref b ∧ SqL K H l xs ∧ SqL K H b [] ∧ Q (.bl (!decide (xs.length = 0))) H
theorem op_neNil {X : Cx} (hu : X.A.units + 64 < cLine) : OpR X (compareOp .NotEq) (rNeN X.K) := by
  intro pins s σ H x y v u Q I rx ry h
  obtain ⟨l, b, xs, rfl, rfl, hl, hb, q⟩ := h
  by_cases e : xs.length = 0
  · have e' := List.eq_nil_of_length_eq_zero e
    subst e'
    exact op_neD hu pins s σ H _ _ v u Q I rx ry (ne_nilnil hl hb q)
  · cases rx
    cases ry
    obtain ⟨i1, r1, p1, z1⟩ := I.list hl
    obtain ⟨i2, r2, p2, z2⟩ := I.list hb
    have e1 := r1.length
    have e2 := r2.length
    rw [decide_eq_false e] at q
    exact PySem.SeqAt.RcNeAt.lists_lengths p1.isList p2.isList (by rw [List.size_toArray, List.size_toArray, ← e1, ← e2]; exact bne_iff_ne.mpr e) (by omega) _ _ _ _ ⟨.bl _, H, I, rfl, q⟩
theorem rNeN_r {K : PySem.W.Frag} {l b : Addr} {H : Hp} {Q : VK} : rNeN K (.ref l) (.ref b) H Q = ∃ xs, SqL K H l xs ∧ SqL K H b [] ∧ Q (.bl (!decide (xs.length = 0))) H := propext ⟨fun ⟨_, _, xs, e1, e2, h⟩ => by cases e1; cases e2; exact ⟨xs, h⟩, fun ⟨xs, h⟩ => ⟨l, b, xs, rfl, rfl, h⟩⟩
/-- [x for x in .. if ..], of which only is asked whether it is empty -/
theorem lcNil {J : It} {n : Nat} {G : Hp → Prop} {Y : Nat → Hp → V → Hp → Prop} (w : Walk J n G Y) {g : TG} {tt : TT} {te : TE} {vs : List Nat} {σ : L2.St} {H1 : Hp} {D : Addr} {Qd : Hp → Prop} (bs : Nat → Bool) (hD : H1 D = none) (hz : n ≤ 10000)
    (hG : ∀ H, Same H1 H → G H) (hY : ∀ i H x H', Y i H x H' → Same H H')
    (hs : ∀ i x H H', i < n → Same H1 H' → Y i H x H' → ∀ (R1 : V → Hp → Prop) (R0 : Hp → Prop), (bs i = true → ∀ y H4, Same H' H4 → R1 y H4) → (bs i = false → ∀ H4, Same H' H4 → R0 H4) → g x (wipe σ vs) H' fun σ2 H2 => wipe σ2 vs = wipe σ vs ∧ tt σ2 H2 fun b H3 => if b = true then te σ2 H3 R1 else R0 H3)
    (hd : ∀ H acc, Same H1 H → H D = some (.lst acc) → (acc.length = 0 ↔ ∀ j, j < n → bs j = false) → Qd H) : LcR J g tt te vs σ D H1 Qd := by
  refine LcR.by w (fun i H => Same H1 H ∧ ∃ acc, H D = some (.lst acc) ∧ acc.length ≤ i ∧ (acc.length = 0 ↔ ∀ j, j < i → bs j = false)) ⟨same_upd hD, [], upd_same, Nat.le_refl _, ⟨fun _ j hj => by omega, fun _ => rfl⟩⟩ (fun i H _ h => hG H h.1) (fun i x H H' hi h y => ?_) (fun H h => ?_)
  · obtain ⟨s0, acc, ea, hl, hacc⟩ := h
    have sy := hY _ _ _ _ y
    refine hs i x H H' hi (s0.trans sy) y _ _ (fun hb z H4 s4 => ?_) (fun hb H4 s4 => ?_)
    · refine ⟨acc, s4 _ _ (sy _ _ ea), sz100l (by omega), same_mut ((s0.trans sy).trans s4) hD, acc ++ [z], upd_same, by rw [List.length_append, List.length_singleton]; omega, ⟨fun e => ?_, fun e => ?_⟩⟩
      · rw [List.length_append, List.length_singleton] at e
        omega
      · have := e i (by omega)
        rw [hb] at this
        cases this
    · refine ⟨(s0.trans sy).trans s4, acc, s4 _ _ (sy _ _ ea), by omega, hacc.trans ⟨fun e j hj => ?_, fun e j hj => e j (by omega)⟩⟩
      by_cases ej : j = i
      · subst ej
        exact hb
      · exact e j (by omega)
  · obtain ⟨s0, acc, ea, _, hacc⟩ := h
    exact hd H acc s0 ea hacc
end Bk

namespace Bk
open PySem PySem.Spec PyProof.Rows L2
/-! ### i not in range(lo, hi) -/
def rNinr : R2 := fun x y H Q => ∃ (i : Int) (p : Addr) (m n : Int), x = .int i ∧ y = .ref p ∧ H p = some (.rng m n) ∧ Q (.bl (!decide (m ≤ i ∧ i < n))) H
theorem rNinr_r {i : Int} {a : Addr} {H : Hp} {Q : VK} : rNinr (.int i) (.ref a) H Q = ∃ lo hi, H a = some (.rng lo hi) ∧ Q (.bl (!decide (lo ≤ i ∧ i < hi))) H := propext ⟨fun ⟨_, _, lo, hi, e1, e2, h⟩ => by cases e1; cases e2; exact ⟨lo, hi, h⟩, fun ⟨lo, hi, h⟩ => ⟨i, a, lo, hi, rfl, rfl, h⟩⟩
end Bk

namespace Bk
open PySem PySem.Spec PyProof.Rows L2
/-! ### what is a bakery by the looks has its shape -/
/-! ### t[::-1] of a tuple -/
def backV {α : Type} (xs : List α) : List α := ((List.range xs.length).map fun (k : Nat) => ((xs.length : Int) - 1 + (k : Int) * -1).toNat).filterMap (xs[·]?)
theorem backV_length {α : Type} (xs : List α) : (backV xs).length = xs.length := by
  unfold backV
  rw [pick_length, List.length_map, List.length_range]
  intro i hi
  obtain ⟨k, hk, rfl⟩ := List.mem_map.mp hi
  have := List.mem_range.mp hk
  omega
section
variable {prog : Program} {w : World} {A : Around} {E : Value → Shared → Prop} {s : Shared}
theorem sliceApplied_back {sl : Addr} {vs : Value} {n : Nat} {Q : Int × Int × Nat → Shared → Prop} (hs : s.heap.IsSliceOf sl .none .none vs) (ps : IsPart vs (some (-1)))
    (h : Q ((n : Int) - 1, -1, n) s) : wpAny (model prog w) A (Builtin.Slice.sliceApplied (.ref sl) (pure (n : Int))) Q E s := by
  obtain ⟨os, hos, hcs, hds⟩ := id hs
  unfold Builtin.Slice.sliceApplied Builtin.Slice.sliceFields
  refine wpAny_bind (wpAny_bind (wpAny_field hos hds (x := .none) rfl (wpAny_bind (wpAny_field hos hds (x := .none) rfl (wpAny_bind (wpAny_field hos hds (x := vs) rfl (wpAny_pure ?_)))))))
  refine wpAny_bind (HT.slicePart_ ps ?_)
  show wpAny _ _ (if ((-1 : Int) == 0) = true then _ else _) _ _ s
  rw [if_neg (by decide)]
  refine wpAny_bind (HT.slicePart_ .none (wpAny_bind (HT.slicePart_ .none (wpAny_bind (wpAny_pure ?_)))))
  show wpAny _ _ (match Builtin.Slice.sliceAdjust none none (-1) (n : Int) with | (lo, hi) => pure (lo, (-1 : Int), Builtin.Slice.slicePlaces lo hi (-1))) _ _ s
  rw [show Builtin.Slice.sliceAdjust none none (-1) (n : Int) = ((n : Int) - 1, -1) from rfl]
  show wpAny _ _ (pure ((n : Int) - 1, (-1 : Int), Builtin.Slice.slicePlaces ((n : Int) - 1) (-1) (-1))) _ _ s
  rw [show Builtin.Slice.slicePlaces ((n : Int) - 1) (-1) (-1) = n by
    unfold Builtin.Slice.slicePlaces
    rw [if_neg (by decide)]
    by_cases h0 : (n : Int) - 1 > -1
    · rw [if_pos h0, show (- -1 : Int) = 1 by decide, Int.ediv_one]
      omega
    · rw [if_neg h0]
      omega]
  exact wpAny_pure h
theorem getItem_tuple_back {t sl : Addr} {items : Array Value} {vs : Value} {Q : Value → Shared → Prop} (ht : IsTup s.heap t items) (hs : s.heap.IsSliceOf sl .none .none vs) (ps : IsPart vs (some (-1)))
    (h : Q (.ref s.heap.objs.size) { s with heap := s.heap.push { cls := .type "tuple", data := .seq (backV items.toList).toArray } })
    (hsz : items.size ≤ sizeLine) : wpAny (model prog w) A (getItem (.ref t) (.ref sl)) Q E s := by
  have htake : sizeOk (.seq (backV items.toList).toArray) := by
    show (backV items.toList).toArray.size ≤ sizeLine
    rw [List.size_toArray, backV_length, Array.length_toList]
    exact hsz
  obtain ⟨os, hos, hcs, hds⟩ := id hs
  have hTs : s.TypeIs (.ref sl) "slice" := ⟨os, hos, hcs⟩
  unfold getItem
  try with_reducible refine wpAny_holding ?_
  first | refine wpAny_bind (wpAny_pure ?_) | skip
  refine wpAny_bind (wpAny_sequenceKey ht.typeIs (by decide) ?_)
  refine wpAny_bind (wpAny_callSpecial?_slot (name := Str.ofString "__getitem__") ht.typeIs PyProof.Rows.slot_tuple_getitem
    (wpAny_call_entry PyProof.Rows.slot_tuple_getitem ht.typeIs entry_tuple_getitem ?_ (args_tuple_getitem _ _)))
  show wpAny _ _ (Builtin.Tuple.tupleItemsOf (.ref t) >>= _) _ _ s
  refine wpAny_bind (tupleItemsOf_ ht ?_)
  refine wpAny_bind (wpAny_typeOf hTs ?_)
  rw [if_pos (by decide)]
  refine wpAny_bind (sliceApplied_back hs ps ?_)
  have hno : ¬ ((((items.size : Int) - 1) == 0 && (-1 : Int) == 1 && items.size == items.size) = true) := by
    intro q
    rw [Bool.and_eq_true, Bool.and_eq_true] at q
    exact absurd q.1.2 (by decide)
  show wpAny _ _ (if (((items.size : Int) - 1) == 0 && (-1 : Int) == 1 && items.size == items.size) = true then _ else _) _ _ s
  have epick : ((List.range items.size).filterMap fun (k : Nat) => items[((items.size : Int) - 1 + (k : Int) * -1).toNat]?).toArray = (backV items.toList).toArray := by
    unfold backV
    rw [List.filterMap_map, Array.length_toList]
    congr 1
    congr 1
    funext k
    simp
  rw [if_neg hno, epick]
  first
    | exact wpAny_bind (m := Builtin.Tuple.tupleExact _) (wpAny_newObj_type (wpAny_pure ⟨_, rfl, wpAny_pure h⟩) htake)
    | exact wpAny_bind (m := Builtin.Tuple.tupleExact _) (wpAny_newObj_type (wpAny_bind (wpAny_pure (wpAny_pure ⟨_, rfl, wpAny_pure h⟩))) htake)
    | exact wpAny_bind (wpAny_bind (m := Builtin.Tuple.tupleExact _) (wpAny_newObj_type (wpAny_pure (wpAny_pure ⟨_, rfl, wpAny_pure h⟩)) htake))
    | exact wpAny_bind (wpAny_bind (m := Builtin.Tuple.tupleExact _) (wpAny_newObj_type (wpAny_pure ⟨_, rfl, wpAny_pure h⟩) htake))
end
def tBackT (K : PySem.W.Frag) (te : TE) (tl th ts : TO) : TE := fun σ H Q => te σ H fun x H1 => tl σ H1 fun l H2 => th σ H2 fun u H3 => ts σ H3 fun st H4 => ∃ a xs, x = .ref a ∧ SqT K H4 a xs ∧ l = none ∧ u = none ∧ st = some (-1) ∧
  ∀ p, H4 p = none → Q (.ref p) (upd H4 p (.tup (backV xs)))
theorem pe_backT {X : Cx} {e : Expr} {lo hi st : Option Expr} {te : TE} {tl th ts : TO} {p3 pos : Pos} (he : PE X e te) (hl : PO X lo tl) (hu : PO X hi th) (hst : PO X st ts)
    (hsub : ∀ a i, subscripted (.Slice lo hi st p3) false a i = operate [a, i] (getItem a i) := by intro _ _; with_unfolding_all rfl) : PE X (.Subscript e (.Slice lo hi st p3) pos) (tBackT X.K te tl th ts) := by
  refine ⟨fun pins s σ H Q I h => ?_⟩
  refine Subscript_ (thn (he.run pins s σ H _ I h) fun v s1 ⟨x, H1, I1, r1, q1⟩ => ?_)
  refine wpAny_Slice (thn (hl.run pins s1 σ H1 _ I1 q1) fun vl s2 ⟨l, H2, I2, pl, q2⟩ => ?_)
  refine thn (hu.run pins s2 σ H2 _ I2 q2) fun vu s3 ⟨u, H3, I3, pu, q3⟩ => ?_
  refine thn (hst.run pins s3 σ H3 _ I3 q3) fun vs s4 ⟨o, H4, I4, ps, q4⟩ => ?_
  obtain ⟨a, xs, ex, hx, e1, e2, e3, q⟩ := q4
  subst ex e1 e2 e3
  cases r1
  cases pl
  cases pu
  have I5 : Inv X pins σ H4 { s4 with heap := s4.heap.push { cls := .type "slice", data := .fields #[.none, .none, vs] } } := I4.kept (t' := s4.toks) fun b ob q => Heap.get?_push_of_some _ q
  obtain ⟨its, r, ht, hz⟩ := I5.tuple hx
  have hlen := r.length
  show wpAny (model X.prog X.w) X.A (subscriptTail e (.Slice lo hi st p3) (.ref a) (.ref s4.heap.objs.size)) (EP X pins σ Q) X.xe { s4 with heap := s4.heap.push { cls := .type "slice", data := .fields #[.none, .none, vs] } }
  refine tail_any (ops := [.ref a, .ref s4.heap.objs.size]) ht.typeIs (PyProof.Rows.slot_tuple_getitem.lookup) ?_ (hsub _ _)
  refine getItem_tuple_back ht (Heap.IsSliceOf.new _ .none .none vs) ps ?_ (by rw [List.size_toArray]; omega)
  have rp : Vals (backV xs) (backV its) := by
    have := vals_pick r ((List.range xs.length).map fun (k : Nat) => ((xs.length : Int) - 1 + (k : Int) * -1).toNat)
    unfold backV
    rw [← hlen]
    exact this
  show EP X pins σ Q _ { s4 with heap := (s4.heap.push { cls := .type "slice", data := .fields #[.none, .none, vs] }).push { cls := .type "tuple", data := .seq (backV its).toArray } }
  refine ⟨.ref _, _, I5.laid (t' := s4.toks) (o := .tup (backV xs)) (fun b ob q => Heap.get?_push_of_some _ q) (Nat.le_refl _) ?_, rfl, q _ (I5.hok.fresh (Nat.le_refl _))⟩
  exact ⟨by rw [backV_length]; omega, _, rp, IsTup.new _ _⟩
/-! ### expressions that tell some data, whatever they are -/
def Grow (R : Hp → V → Prop) : Prop := ∀ H H' y, Same H H' → R H y → R H' y
def Ye (R : Hp → V → Prop) (te : TE) (σ : L2.St) (H : Hp) : Prop := ∀ H1, Same H H1 → ∀ Q : VK, (∀ H2 y, Same H1 H2 → R H2 y → Q y H2) → te σ H1 Q
def Ya (R : Hp → List V → Prop) (ta : TA) (σ : L2.St) (H : Hp) : Prop := ∀ H1, Same H H1 → ∀ Q : List V → Hp → Prop, (∀ H2 ys, Same H1 H2 → R H2 ys → Q ys H2) → ta σ H1 Q
def Yo (to : TO) (σ : L2.St) (H : Hp) : Prop := ∀ H1, Same H H1 → ∀ Q : Option Int → Hp → Prop, (∀ H2 o, Same H1 H2 → Q o H2) → to σ H1 Q
def Yt (tt : TT) (σ : L2.St) (H : Hp) : Prop := ∀ H1, Same H H1 → ∀ Q : Bool → Hp → Prop, (∀ H2 b, Same H1 H2 → Q b H2) → tt σ H1 Q
def AnyD (K : PySem.W.Frag) : Hp → V → Prop := fun H y => ∃ d, Th K H y d
def TupD (K : PySem.W.Frag) (n : Nat) : Hp → V → Prop := fun H y => ∃ ds, ds.length ≤ n ∧ Th K H y (.tuple ds)
def LstD (K : PySem.W.Frag) (n : Nat) : Hp → V → Prop := fun H y => ∃ ds, ds.length ≤ n ∧ Th K H y (.list ds)
def LstE (K : PySem.W.Frag) (n : Nat) : Hp → V → Prop := fun H y => ∃ ds, ds.length = n ∧ Th K H y (.list ds)
def AllD (K : PySem.W.Frag) (n : Nat) : Hp → List V → Prop := fun H ys => ∃ ds, ds.length = n ∧ ThAll K H ys ds
def IntD (P : Int → Prop) : Hp → V → Prop := fun _ y => ∃ i, y = .int i ∧ P i
section
variable {K : PySem.W.Frag} {σ : L2.St} {H : Hp} {te ta tb : TE} {R R' : Hp → V → Prop}
theorem Ye.at (h : Ye R te σ H) {H1 : Hp} (S : Same H H1) {Q : VK} (q : ∀ H2 y, Same H1 H2 → R H2 y → Q y H2) : te σ H1 Q := h H1 S Q q
theorem Ye.same (h : Ye R te σ H) {H1 : Hp} (S : Same H H1) : Ye R te σ H1 := fun H2 S2 => h H2 (S.trans S2)
theorem Ye.weak (h : Ye R te σ H) (w : ∀ H y, R H y → R' H y) : Ye R' te σ H := fun H1 S Q q => h H1 S Q fun H2 y S2 r => q H2 y S2 (w _ _ r)
theorem Ye.tup {n : Nat} (h : Ye (TupD K n) te σ H) : Ye (AnyD K) te σ H := h.weak fun _ _ ⟨ds, _, t⟩ => ⟨_, t⟩
theorem Ye.lst {n : Nat} (h : Ye (LstD K n) te σ H) : Ye (AnyD K) te σ H := h.weak fun _ _ ⟨ds, _, t⟩ => ⟨_, t⟩
theorem Ye.lstE {n : Nat} (h : Ye (LstE K n) te σ H) : Ye (AnyD K) te σ H := h.weak fun _ _ ⟨ds, _, t⟩ => ⟨_, t⟩
theorem Ye.exact {n : Nat} (h : Ye (LstE K n) te σ H) : Ye (LstD K n) te σ H := h.weak fun _ _ ⟨ds, e, t⟩ => ⟨_, Nat.le_of_eq e, t⟩
theorem Ye.int {P : Int → Prop} (h : Ye (IntD P) te σ H) : Ye (AnyD K) te σ H := h.weak fun _ _ ⟨i, e, _⟩ => ⟨.int i, by rw [e]; exact .int i⟩
theorem ye_var {i : Nat} {v : V} (hm : Grow R) (e : σ[i]? = some (some v)) (h : R H v) : Ye R (tVar i) σ H := fun H1 S Q q => ⟨v, e, q H1 v (Same.refl _) (hm _ _ _ S h)⟩
theorem ye_vI {i : Nat} {z : Int} {P : Int → Prop} (e : σ[i]? = some (some (.int z))) (h : P z) : Ye (IntD P) (tVar i) σ H := fun H1 S Q q => ⟨_, e, q H1 _ (Same.refl _) ⟨z, rfl, h⟩⟩
theorem ye_i {z : Int} {P : Int → Prop} (h : P z) : Ye (IntD P) (tC (.int z)) σ H := fun H1 _ Q q => q H1 _ (Same.refl _) ⟨z, rfl, h⟩
theorem ye_neg {P P' : Int → Prop} (h : Ye (IntD P) te σ H) (hp : ∀ i, P i → P' (-i)) : Ye (IntD P') (tUn (rU fun i => .int (-i)) te) σ H := fun H1 S Q q => h H1 S _ fun H2 y S2 ⟨i, e, p⟩ => ⟨i, e, q H2 _ S2 ⟨_, rfl, hp i p⟩⟩
theorem ye_I0 {f : Int → Int → Int} {P P1 P2 : Int → Prop} (ha : Ye (IntD P1) ta σ H) (hb : Ye (IntD P2) tb σ H) (hp : ∀ i j, P1 i → P2 j → P (f i j)) : Ye (IntD P) (tOp (rI0 fun i j => .int (f i j)) ta tb) σ H :=
  fun H1 S Q q => ha H1 S _ fun H2 y S2 ⟨i, e, p1⟩ => hb H2 (S.trans S2) _ fun H3 z S3 ⟨j, e2, p2⟩ => ⟨i, j, e, e2, q H3 _ (S2.trans S3) ⟨_, rfl, hp i j p1 p2⟩⟩
theorem ye_I {C : Int → Int → Prop} {f : Int → Int → Int} {P P1 P2 : Int → Prop} (ha : Ye (IntD P1) ta σ H) (hb : Ye (IntD P2) tb σ H) (hp : ∀ i j, P1 i → P2 j → C i j ∧ P (f i j)) : Ye (IntD P) (tOp (rI C fun i j => .int (f i j)) ta tb) σ H :=
  fun H1 S Q q => ha H1 S _ fun H2 y S2 ⟨i, e, p1⟩ => hb H2 (S.trans S2) _ fun H3 z S3 ⟨j, e2, p2⟩ => ⟨i, j, e, e2, (hp i j p1 p2).1, q H3 _ (S2.trans S3) ⟨_, rfl, (hp i j p1 p2).2⟩⟩
theorem ye_mod {n : Int} {P : Int → Prop} (h : Ye (IntD P) te σ H) (hn : 0 < n) : Ye (IntD fun i => 0 ≤ i ∧ i < n) (tOp (rI (fun _ j => 0 < j) fun i j => .int (i % j)) te (tC (.int n))) σ H :=
  ye_I h (ye_i (P := fun j => j = n) rfl) fun i j _ e => by subst e; exact ⟨hn, Int.emod_nonneg _ (by omega), Int.emod_lt_of_pos _ hn⟩
theorem ye_dig {k : Nat} {pd : Addr} {fs : List Int} {i : Nat} {f : Int} (e : σ[k]? = some (some (.ref pd))) (h : SqL K H pd (fs.map V.int)) (hf : fs[i]? = some f) : Ye (IntD fun z => z = f) (tOp (rIxL K) (tVar k) (tC (.int (i : Int)))) σ H :=
  fun H1 S Q q => ⟨_, e, ⟨pd, fs.map V.int, (i : Int), .int f, rfl, rfl, S.seq h, atI_nat (by rw [List.getElem?_map, hf]; rfl), q H1 _ (Same.refl _) ⟨f, rfl, rfl⟩⟩⟩
theorem yo_none : Yo tNoPart σ H := fun H1 _ Q q => q H1 _ (Same.refl _)
theorem yo_some {P : Int → Prop} (h : Ye (IntD P) te σ H) : Yo (tPart te) σ H := fun H1 S Q q => h H1 S _ fun H2 y S2 ⟨i, e, _⟩ => ⟨i, e, q H2 _ S2⟩
theorem thAll_cut {H : Hp} {xs : List V} {ds : List PyData} (h : ThAll K H xs ds) (a b : Nat) : ThAll K H ((xs.drop a).take b) ((ds.drop a).take b) := (h.drop a).take b
theorem thAll_app2 {H : Hp} {ys : List V} {es : List PyData} (h2 : ThAll K H ys es) : ∀ {xs : List V} {ds : List PyData}, ThAll K H xs ds → ThAll K H (xs ++ ys) (ds ++ es)
  | _, _, .nil => h2
  | _, _, .cons a b => .cons a (thAll_app2 h2 b)
theorem thAll_pick {H : Hp} {xs : List V} {ds : List PyData} (r : ThAll K H xs ds) : ∀ is : List Nat, ThAll K H (is.filterMap (xs[·]?)) (is.filterMap (ds[·]?))
  | [] => .nil
  | i :: is => by
    have ih := thAll_pick r is
    have hl := r.length
    by_cases hi : i < xs.length
    · obtain ⟨d, e2, r2⟩ := r.get (List.getElem?_eq_getElem hi)
      rw [List.filterMap_cons_some (List.getElem?_eq_getElem hi), List.filterMap_cons_some e2]
      exact .cons r2 ih
    · rw [List.filterMap_cons_none (List.getElem?_eq_none (by omega)), List.filterMap_cons_none (List.getElem?_eq_none (by omega))]
      exact ih
def rTupOf (K : PySem.W.Frag) : List V → Hp → VK → Prop := fun xs H Q => ∃ p ys, xs = [.ref p] ∧ ((SqL K H p ys ∧ ∀ l, H l = none → Q (.ref l) (upd H l (.tup ys))) ∨ (SqT K H p ys ∧ Q (.ref p) H))
theorem call_tupOf {X : Cx} : CallR X (.type "tuple") (rTupOf X.K) := call_tuple_of
def LstT (K : PySem.W.Frag) (n : Nat) : Hp → V → Prop := fun H y => ∃ a xs ds, y = .ref a ∧ H a = some (.lst xs) ∧ ThAll K H xs ds ∧ ds.length ≤ n
theorem ye_add {P1 P2 : Int → Prop} (ha : Ye (IntD P1) ta σ H) (hb : Ye (IntD P2) tb σ H) : Ye (IntD fun _ => True) (tOp (rI0 fun i j => .int (i + j)) ta tb) σ H := ye_I0 ha hb fun _ _ _ _ => trivial
/-! ### rows of a block, one by one -/
section
variable {A B C : TS} {D : Ends} {tt : TT}
theorem s_asg {i : Nat} (h : Ye R te σ H) (k : ∀ H2 y, Same H H2 → R H2 y → B D (σ.set i (some y)) H2) : tSeq (tAsg te (gName i)) B D σ H := h H (Same.refl _) _ fun H2 y S r => k H2 y S r
theorem s_ret (h : Ye R te σ H) (k : ∀ H2 y, Same H H2 → R H2 y → D.rt y H2) : tRet te D σ H := h H (Same.refl _) _ fun H2 y S r => k H2 y S r
end
end
end Bk

namespace Bk
open PySem PySem.Spec PyProof.Rows L2
/-! ### what a stretch wants, and its room -/
def needOf (t : Tr) (c : Bool) : Int := if c = true then t.2.2 else 0
/-- what must be baked from day f up to day l -/
def needW (W : List Tr) (f l : Nat) : Int := (W.map fun t => needOf t (decide ((f : Int) ≤ t.1) && decide (t.2.1 ≤ (l : Int)))).sum
/-- .. whose last day is e -/
def endsF (W : List Tr) (f e : Nat) : Int := (W.map fun t => needOf t (decide ((f : Int) ≤ t.1) && decide (t.2.1 = (e : Int)))).sum
def roomS (rs : List Int) (f l : Nat) : Int := ((rs.drop f).take (l + 1 - f)).sum
def Over (W : List Tr) (rs : List Int) (f l : Nat) : Prop := roomS rs f l < needW W f l
/-- the loaves left over, day by day -/
def overF (W : List Tr) (rs : List Int) (f : Nat) : Nat → Int
  | 0 => 0
  | j + 1 => overF W rs f j + (endsF W f (f + j) - rs.getD (f + j) 0)
theorem roomS_succ {rs : List Int} {f j : Nat} (h : f + j < rs.length) : ((rs.drop f).take (j + 1)).sum = ((rs.drop f).take j).sum + rs.getD (f + j) 0 := by
  rw [List.take_succ, List.sum_append, List.getElem?_drop, List.getD_eq_getElem?_getD, List.getElem?_eq_getElem h]
  simp
/-- the first last day from f on that wants too much -/
def IsLm (W : List Tr) (rs : List Int) (f : Nat) : Option Nat → Prop
  | some l => f ≤ l ∧ l < rs.length ∧ Over W rs f l ∧ ∀ m, f ≤ m → m < l → ¬ Over W rs f m
  | none => ∀ m, f ≤ m → m < rs.length → ¬ Over W rs f m
/-- the first stretch -/
def IsFs (W : List Tr) (rs : List Int) : Option (Nat × Nat) → Prop
  | some (f, l) => f < rs.length ∧ IsLm W rs f (some l) ∧ ∀ e, e < f → IsLm W rs e none
  | none => ∀ e, e < rs.length → IsLm W rs e none
end Bk

namespace Bk
open PySem PySem.Spec PyProof.Rows L2 RZ
/-! ### len and zip of lists or tuples -/
def rLnS (K : PySem.W.Frag) : List V → Hp → VK → Prop := fun xs H Q => ∃ p ys, xs = [.ref p] ∧ (SqL K H p ys ∨ SqT K H p ys) ∧ Q (.int ys.length) H
def rZipA (K : PySem.W.Frag) (vs : List V) (H1 : Hp) (R : It → Hp → Prop) : Prop := ∃ a b xs ys, vs = [.ref a, .ref b] ∧ ((SqL K H1 a xs ∧ SqL K H1 b ys ∧ R (Itz K a b) H1) ∨ (SqT K H1 a xs ∧ SqT K H1 b ys ∧ R (ItzT K a b) H1))
/-! ### data that is alike: so deep, no dicts -/
def sameOk : Nat → PyData → Bool
  | _, .none => true
  | _, .bool _ => true
  | _, .int _ => true
  | _, .str _ => true
  | 0, .list _ => false
  | 0, .tuple _ => false
  | k + 1, .list ds => decide (ds.length ≤ 1000) && ds.all (sameOk k)
  | k + 1, .tuple ds => decide (ds.length ≤ 1000) && ds.all (sameOk k)
  | _, .dict _ => false
end Bk

namespace Bk
/-! ### what a day can gain: the best offers first, and all choices of loaves -/
abbrev Off := Int × Int
/-- by all choices: so many loaves at most (below 0: as many as there are) -/
def choF : List Int → Int → Int
  | [], _ => 0
  | x :: l, r => if r = 0 then 0 else max (choF l r) (x + choF l (r - 1))
/-! ### offer by offer -/
def capW : Option Int → Int → Int
  | none, w => w
  | some k, w => if k < w then k else w
def lfill : Option Int → List Off → Int
  | _, [] => 0
  | r, o :: l => if 0 < o.1 ∧ 0 < capW r o.2 then o.1 * capW r o.2 + lfill (r.map (· - capW r o.2)) l else lfill r l
theorem lfill_pos {r : Option Int} {o : Off} {l : List Off} (h : 0 < o.1) (h2 : 0 < capW r o.2) : lfill r (o :: l) = o.1 * capW r o.2 + lfill (r.map (· - capW r o.2)) l := if_pos ⟨h, h2⟩
theorem lfill_neg {r : Option Int} {o : Off} {l : List Off} (h : ¬ (0 < o.1 ∧ 0 < capW r o.2)) : lfill r (o :: l) = lfill r l := if_neg h
theorem capW_some (k w : Int) : capW (some k) w = min w k := by
  show (if k < w then k else w) = min w k
  split <;> omega
def unitsF (L : List Off) : List Int := L.flatMap fun o => List.replicate o.2.toNat o.1
/-! ### the program's way: offers above nought only, room as a number -/
def pfill : Int → List Off → Int
  | _, [] => 0
  | r, o :: l => o.1 * min o.2 r + pfill (r - min o.2 r) l
def coreF (L : List Off) : List Off := L.filter fun o => decide (0 < o.1) && decide (0 < o.2)
theorem pfill_cons (r : Int) (o : Off) (l : List Off) : pfill r (o :: l) = o.1 * min o.2 r + pfill (r - min o.2 r) l := rfl
theorem pfill_core : ∀ {L : List Off} {r : Int}, 0 ≤ r → (∀ o ∈ L, 0 < o.1 ∧ 0 ≤ o.2) → pfill r L = pfill r (coreF L)
  | [], _, _, _ => rfl
  | o :: l, r, hr, h => by
    obtain ⟨h1, h2⟩ := h o List.mem_cons_self
    have hl : ∀ o ∈ l, 0 < o.1 ∧ 0 ≤ o.2 := fun z hz => h z (List.mem_cons_of_mem _ hz)
    unfold coreF
    by_cases hw : 0 < o.2
    · rw [List.filter_cons_of_pos (by simp [h1, hw])]
      unfold pfill
      rw [pfill_core (by omega) hl]
      rfl
    · rw [List.filter_cons_of_neg (by simp [hw])]
      rw [pfill_cons, show min o.2 r = 0 by omega, Int.mul_zero, Int.zero_add, Int.sub_zero]
      exact pfill_core hr hl
theorem lfill_core : ∀ {L : List Off} {r : Option Int}, (∀ o ∈ L, 0 < o.2) → lfill r L = lfill r (coreF L)
  | [], _, _ => rfl
  | o :: l, r, h => by
    have h1 := h o List.mem_cons_self
    have hl : ∀ o ∈ l, 0 < o.2 := fun z hz => h z (List.mem_cons_of_mem _ hz)
    unfold coreF
    by_cases hm : 0 < o.1
    · rw [List.filter_cons_of_pos (by simp [h1, hm])]
      by_cases h3 : 0 < capW r o.2
      · rw [lfill_pos hm h3, lfill_pos hm h3, lfill_core hl]
        rfl
      · rw [lfill_neg (by omega), lfill_neg (by omega), lfill_core hl]
        rfl
    · rw [List.filter_cons_of_neg (by simp [hm])]
      rw [lfill_neg (by omega)]
      exact lfill_core hl
theorem fill_some : ∀ {L : List Off} {k : Int}, 0 ≤ k → (∀ o ∈ L, 0 < o.1 ∧ 0 < o.2) → lfill (some k) L = pfill k L
  | [], _, _, _ => rfl
  | o :: l, k, hk, h => by
    obtain ⟨h1, h2⟩ := h o List.mem_cons_self
    have hl : ∀ o ∈ l, 0 < o.1 ∧ 0 < o.2 := fun z hz => h z (List.mem_cons_of_mem _ hz)
    unfold pfill
    by_cases h3 : 0 < min o.2 k
    · rw [lfill_pos h1 (by rw [capW_some]; exact h3)]
      show _ + lfill (some (k - capW (some k) o.2)) l = _
      rw [capW_some, fill_some (by omega) hl]
    · rw [lfill_neg (by rw [capW_some]; omega), show min o.2 k = 0 by omega, Int.mul_zero, Int.zero_add, Int.sub_zero]
      exact fill_some hk hl
theorem fill_none : ∀ {L : List Off} {k : Int}, (L.map (·.2)).sum ≤ k → (∀ o ∈ L, 0 < o.1 ∧ 0 < o.2) → lfill none L = pfill k L
  | [], _, _, _ => rfl
  | o :: l, k, hk, h => by
    obtain ⟨h1, h2⟩ := h o List.mem_cons_self
    have hl : ∀ o ∈ l, 0 < o.1 ∧ 0 < o.2 := fun z hz => h z (List.mem_cons_of_mem _ hz)
    have hs : 0 ≤ (l.map (·.2)).sum := by
      clear hk h
      induction l with
      | nil => exact Int.le_refl 0
      | cons z t ih =>
        have := (hl z List.mem_cons_self).2
        have := ih fun y hy => hl y (List.mem_cons_of_mem _ hy)
        rw [List.map_cons, List.sum_cons]
        omega
    rw [List.map_cons, List.sum_cons] at hk
    unfold pfill
    rw [lfill_pos (r := none) h1 h2, show min o.2 k = o.2 by omega, ← fill_none (k := k - o.2) (by omega) hl]
    rfl
/-- in order, the greatest first -/
def DescO (L : List Off) : Prop := L.Pairwise fun p q => q.1 < p.1 ∨ (q.1 = p.1 ∧ q.2 ≤ p.2)
theorem desc_uniq : ∀ {L M : List Off}, L.Perm M → DescO L → DescO M → L = M
  | [], M, h, _, _ => (List.Perm.nil_eq h)
  | x :: l, [], h, _, _ => absurd h.length_eq (by simp)
  | x :: l, y :: m, h, hl, hm => by
    have e : x = y := by
      have h1 : x ∈ y :: m := h.mem_iff.mp List.mem_cons_self
      have h2 : y ∈ x :: l := h.mem_iff.mpr List.mem_cons_self
      rcases List.mem_cons.mp h1 with z | z
      · exact z
      rcases List.mem_cons.mp h2 with z2 | z2
      · exact z2.symm
      have a := (List.pairwise_cons.mp hl).1 y z2
      have b := (List.pairwise_cons.mp hm).1 x z
      apply Prod.ext <;> omega
    subst e
    rw [desc_uniq (List.Perm.cons_inv h) (List.pairwise_cons.mp hl).2 (List.pairwise_cons.mp hm).2]
theorem fill_same {P L P' L' : List Off} {bd : Option Int} {room : Int} (hc : coreF P = coreF L) (hP : P'.Perm P) (hL : L'.Perm L) (dP : DescO P') (dL : DescO L') (pP : ∀ o ∈ P, 0 < o.1 ∧ 0 ≤ o.2) (pL : ∀ o ∈ L, 0 < o.2) (hr : (bd = some room ∧ 0 ≤ room) ∨ (bd = none ∧ ((coreF L').map (·.2)).sum ≤ room ∧ 0 ≤ room)) : pfill room P' = lfill bd L' := by
  have e : coreF P' = coreF L' := by
    refine desc_uniq ?_ (dP.filter _) (dL.filter _)
    have h1 : (coreF P').Perm (coreF P) := hP.filter _
    have h2 : (coreF L').Perm (coreF L) := hL.filter _
    rw [hc] at h1
    exact h1.trans h2.symm
  have r0 : 0 ≤ room := by rcases hr with h | h <;> omega
  have hcore : ∀ o ∈ coreF L', 0 < o.1 ∧ 0 < o.2 := fun o ho => by
    have := (List.mem_filter.mp ho).2
    simpa using this
  rw [pfill_core r0 (fun o ho => pP o (hP.mem_iff.mp ho)), lfill_core (fun o ho => pL o (hL.mem_iff.mp ho)), e]
  rcases hr with ⟨rfl, h⟩ | ⟨rfl, h, _⟩
  · exact (fill_some h hcore).symm
  · exact (fill_none h hcore).symm
end Bk

namespace Bk
open PySem PySem.Spec PyProof.Rows L2
/-! ### loaf prices, and the offers of a day by them -/
def pricesD (W : List (List Int)) : PyData := .list (W.map fun w => .list (w.map PyData.int))
def offK (c : Option Int) (p m : Int) : List Off := match c with
  | some c => if c < p then [(p - c, m)] else []
  | none => []
def offG (g : Good) (w : List Int) (j m : Nat) : List Off := (List.range m).flatMap fun k => offK (loafP g j k) (rowF w k) (wantN g k)
def goodN (gs : List Good) (q : Nat) : Good := gs.getD q ⟨[], none⟩
def offB (gs : List Good) (W : List (List Int)) (j n i : Nat) : List Off := (List.range i).flatMap fun q => offG (goodN gs q) (W.getD q []) j n
/-- as the law tells them: all that have a price, where something is wanted -/
def lofK (c : Option Int) (p m : Int) : List Off := match c with
  | some c => if 0 < m then [(p - c, m)] else []
  | none => []
def lofG (g : Good) (w : List Int) (j m : Nat) : List Off := (List.range m).flatMap fun k => lofK (loafP g j k) (rowF w k) (wantN g k)
def lofB (gs : List Good) (W : List (List Int)) (j n i : Nat) : List Off := (List.range i).flatMap fun q => lofG (goodN gs q) (W.getD q []) j n
/-- all that have a price -/
def aofK (c : Option Int) (p m : Int) : List Off := match c with
  | some c => [(p - c, m)]
  | none => []
def aofG (g : Good) (w : List Int) (j m : Nat) : List Off := (List.range m).flatMap fun k => aofK (loafP g j k) (rowF w k) (wantN g k)
def aofB (gs : List Good) (W : List (List Int)) (j n i : Nat) : List Off := (List.range i).flatMap fun q => aofG (goodN gs q) (W.getD q []) j n
theorem flat_next {α : Type} (f : Nat → List α) (m : Nat) : (List.range (m + 1)).flatMap f = (List.range m).flatMap f ++ f m := by
  rw [List.range_succ, List.flatMap_append]
  simp
theorem offG_succ (g : Good) (w : List Int) (j m : Nat) : offG g w j (m + 1) = offG g w j m ++ offK (loafP g j m) (rowF w m) (wantN g m) := flat_next _ m
theorem lofG_succ (g : Good) (w : List Int) (j m : Nat) : lofG g w j (m + 1) = lofG g w j m ++ lofK (loafP g j m) (rowF w m) (wantN g m) := flat_next _ m
theorem aofG_succ (g : Good) (w : List Int) (j m : Nat) : aofG g w j (m + 1) = aofG g w j m ++ aofK (loafP g j m) (rowF w m) (wantN g m) := flat_next _ m
theorem offB_succ (gs : List Good) (W : List (List Int)) (j n i : Nat) : offB gs W j n (i + 1) = offB gs W j n i ++ offG (goodN gs i) (W.getD i []) j n := flat_next _ i
theorem lofB_succ (gs : List Good) (W : List (List Int)) (j n i : Nat) : lofB gs W j n (i + 1) = lofB gs W j n i ++ lofG (goodN gs i) (W.getD i []) j n := flat_next _ i
theorem aofB_succ (gs : List Good) (W : List (List Int)) (j n i : Nat) : aofB gs W j n (i + 1) = aofB gs W j n i ++ aofG (goodN gs i) (W.getD i []) j n := flat_next _ i
theorem offK_len (c : Option Int) (p m : Int) : (offK c p m).length ≤ 1 := by
  unfold offK
  split
  · split <;> simp
  · simp
theorem flat_most {α : Type} {f : Nat → List α} {c : Nat} (h : ∀ k, (f k).length ≤ c) : ∀ m, ((List.range m).flatMap f).length ≤ m * c
  | 0 => by simp
  | m + 1 => by
    rw [flat_next, List.length_append, Nat.succ_mul]
    have := flat_most h m
    have := h m
    omega
theorem offG_len (g : Good) (w : List Int) (j m : Nat) : (offG g w j m).length ≤ m := by
  have := flat_most (f := fun k => offK (loafP g j k) (rowF w k) (wantN g k)) (fun k => offK_len _ _ _) m
  rwa [Nat.mul_one] at this
theorem offB_len (gs : List Good) (W : List (List Int)) (j n i : Nat) : (offB gs W j n i).length ≤ i * n := flat_most (fun q => offG_len _ _ _ _) i
theorem flat_with {α : Type} {f g : Nat → List α} (F : List α → List α) (hF : ∀ a b, F (a ++ b) = F a ++ F b) (h0 : F [] = []) (h : ∀ k, F (f k) = F (g k)) : ∀ m, F ((List.range m).flatMap f) = F ((List.range m).flatMap g)
  | 0 => rfl
  | m + 1 => by rw [flat_next, flat_next, hF, hF, flat_with F hF h0 h m, h m]
theorem core_app (a b : List Off) : coreF (a ++ b) = coreF a ++ coreF b := List.filter_append _ _
theorem core_offK (c : Option Int) (p m : Int) : coreF (offK c p m) = coreF (lofK c p m) := by
  unfold offK lofK
  cases c with
  | none => rfl
  | some c =>
    dsimp only
    by_cases h1 : c < p <;> by_cases h2 : 0 < m
    · rw [if_pos h1, if_pos h2]
    · rw [if_pos h1, if_neg h2]
      unfold coreF
      simp [h2]
    · rw [if_neg h1, if_pos h2]
      unfold coreF
      rw [List.filter_cons_of_neg (by simp; omega)]
    · rw [if_neg h1, if_neg h2]
theorem core_off (gs : List Good) (W : List (List Int)) (j n i : Nat) : coreF (offB gs W j n i) = coreF (lofB gs W j n i) :=
  flat_with coreF core_app rfl (fun q => flat_with coreF core_app rfl (fun k => core_offK _ _ _) n) i
/-! ### in order -/
def leO (p q : Off) : Bool := decide (q.1 < p.1 ∨ (q.1 = p.1 ∧ q.2 ≤ p.2))
def sortO (L : List Off) : List Off := L.mergeSort leO
theorem sortO_perm (L : List Off) : (sortO L).Perm L := List.mergeSort_perm L _
theorem sortO_desc (L : List Off) : DescO (sortO L) := by
  have h := List.pairwise_mergeSort (le := leO) (fun a b c h1 h2 => by
    unfold leO at *
    rw [decide_eq_true_eq] at *
    omega) (fun a b => by
    unfold leO
    rw [Bool.or_eq_true, decide_eq_true_eq, decide_eq_true_eq]
    omega) L
  exact h.imp fun z => by
    unfold leO at z
    rwa [decide_eq_true_eq] at z
theorem sortO_eq {L M : List Off} (h : M.Perm L) (d : DescO M) : M = sortO L := desc_uniq (h.trans (sortO_perm L).symm) d (sortO_desc L)
end Bk

namespace Bk
open PySem PySem.Spec PyProof.Rows L2
/-! ### max(xs, default=d) of a list of ints -/
section
variable {prog : Program} {w : World} {A : Around} {E : Value → Shared → Prop} {s : Shared}
variable {R : Result → Shared → Prop} {J : Addr} {fp wr : List Addr} {n : Nat} {P : Nat → Value → Prop} {St : Nat → Heap → Prop} {kw : List (Str × Value)}
end
def rMaxD (K : PySem.W.Frag) : List V → List V → Hp → VK → Prop := fun vs zs H Q => ∃ (a : Addr) (ns : List Int) (d : Int), vs = [V.ref a] ∧ zs = [V.int d] ∧ SqL K H a (ns.map V.int) ∧ (ns = [] → Q (.int d) H) ∧ ∀ m, m ∈ ns → (∀ y, y ∈ ns → y ≤ m) → Q (.int m) H
end Bk

namespace Bk
open PySem PySem.Spec PyProof.Rows L2
/-! ### chains of last lit days -/
def Down (os : List (Option Nat)) : Prop := ∀ (j d : Nat), os[j]? = some (some d) → d < j
def chainN (os : List (Option Nat)) : Nat → Nat → List Nat
  | 0, j => [j]
  | f + 1, j => j :: (match os[j]? with | some (some d) => chainN os f d | _ => [])
def chain (os : List (Option Nat)) (j : Nat) : List Nat := chainN os j j
section
variable {os : List (Option Nat)}
/-- in the chains of all numbers from the last lit day on -/
def SharedM (os : List (Option Nat)) (n m : Nat) : Prop := ∃ l, os[n]? = some (some l) ∧ ∀ k, l ≤ k → k < n → m ∈ chain os k
structure IsMany (os : List (Option Nat)) (n m : Nat) : Prop where
  most : ∀ m', SharedM os n m' → m' ≤ m
  at_ : m = 0 ∨ SharedM os n m
theorem IsMany.uniq {n m m' : Nat} (h : IsMany os n m) (h' : IsMany os n m') : m = m' := by
  rcases h.at_ with e | e <;> rcases h'.at_ with e' | e'
  · omega
  · have := h.most m' e'
    omega
  · have := h'.most m e
    omega
  · have := h.most m' e'
    have := h'.most m e
    omega
def litOf (os : List (Option Nat)) (m : Nat) : List Nat := (chain os m).tail.reverse
end
def natI (n : Nat) : V := .int (n : Int)
end Bk

namespace Bk
open PySem PySem.Spec PyProof.Rows L2
/-! ### dict(pairs), walks over a dict that is locked -/
def rDictP (K : PySem.W.Frag) : List V → Hp → VK → Prop := fun xs H Q => ∃ (a : Addr) (ps : List Addr) (kvs : List (Key × V)), xs = [.ref a] ∧ SqL K H a (ps.map V.ref) ∧ Paired (fun p kv => SqT K H p [kV kv.1, kv.2]) ps kvs ∧ ∀ p, H p = none → Q (.ref p) (upd H p (.dK (mergeK [] kvs)))
/-- a dict whose keys are just these days -/
structure DictN (H : Hp) (p : Addr) (ns : List Nat) : Prop where
  ex : ∃ kvs : List (Key × V), H p = some (.dK kvs) ∧ kvs.map (·.1) = keyN ns
theorem DictN.same {H H' : Hp} {p : Addr} {ns : List Nat} (h : DictN H p ns) (s : Same H H') : DictN H' p ns := by
  obtain ⟨kvs, e, k⟩ := h.ex
  exact ⟨kvs, s _ _ e, k⟩
end Bk

namespace Bk
open PySem PySem.Spec PyProof.Rows L2
/-! ### d == {}, and dicts of days with whole numbers -/
def rEqDE : R2 := fun x y H Q => ∃ a b ks, x = .ref a ∧ y = .ref b ∧ H a = some (.dK ks) ∧ H b = some (.dK []) ∧ Q (.bl (decide (ks.length = 0))) H
def mkE (es : List (Nat × Int)) : List (Key × V) := es.map fun e => (Sum.inl ((e.1 : Nat) : Int), V.int e.2)
def putE (es : List (Nat × Int)) (d : Nat) (v : Int) : List (Nat × Int) := if (es.any fun e => decide (e.1 = d)) = true then es.map (fun e => if e.1 = d then (d, v) else e) else es ++ [(d, v)]
def lookE (es : List (Nat × Int)) (d : Nat) : Option Int := (es.find? fun e => decide (e.1 = d)).map (·.2)
end Bk

namespace Bk
open PySem PySem.Spec PyProof.Rows L2
/-! ### set(xs) of a list of ints -/
abbrev emp0 (w : World) : Obj := { cls := .type "set", dict := none, data := .set #[] 0 (.fresh 0 0 (!w.params.followText "set-order")) }
section
variable {P : Program} {w : World} {A : Around} {E : Value → Shared → Prop} {s : Shared}
set_option maxHeartbeats 3200000 in
theorem set_ofList {l : Addr} {its : Array Value} (zs : List Int) {Q : Value → Shared → Prop} (ah : A.handled = none) (il : s.heap.IsList l its) (ia : IntsAre its.toList zs) (few : zs.length + 1 < scanBound)
    (go : ∀ (h' : Heap) (tk c : Nat), SetR w h' s.heap.objs.size (fun j => decide (j ∈ zs)) c → c ≤ zs.length → (∀ b o, s.heap.get? b = some o → h'.get? b = some o) → Q (.ref s.heap.objs.size) { s with heap := h', toks := tk }) : wpAny (model P w) A (call (.type "set") [.ref l]) Q E s := by
  have isz : its.size = zs.length := by have z := IntsAre.length ia; rw [Array.length_toList] at z; exact z
  obtain ⟨c, tl, m1⟩ := F.called_set.mro
  have m2 := F.called_set.made
  have m3 := F.called_set.sub
  refine wpAny_call (codeAny_of_tree ?_); show wpAny _ _ (callAny (.type "set") _) _ _ _
  refine wpAny_pure ⟨Code.quiet_builtin _ (by decide +kernel), codeAny_builtin F.entry_type_call ?_⟩; rw [Around.under_plain (weight_type_call_type "set" [.ref l] []) rfl]
  have m4 := F.called_set.notType
  have m5 := F.called_set.canCreate
  have m6 := F.typeCall_set_1 (.ref l)
  repeat (any_goals (first | assumption | wp_step))
  refine codeAny_mono (code_set_led1 (.ref l) (E := E) (Q₁ := fun u t => u = .ref s.heap.objs.size ∧ t = { s with heap := s.heap.push (emp0 w) }) ⟨rfl, rfl⟩) fun r t hr => ?_
  cases r with
  | error e => exact hr
  | ok fl =>
    cases fl with
    | ret u =>
      obtain ⟨rfl, rfl⟩ := hr
      have eS : (s.heap.push (emp0 w)).get? s.heap.objs.size = some (emp0 w) := Heap.get?_push_size _ rfl
      have eT : Shared.TypeIs { s with heap := s.heap.push (emp0 w) } (.ref s.heap.objs.size) "set" := ⟨_, eS, rfl⟩
      have m7 := F.called_set.init.lookup
      have m8 := F.called_set.init.bind (.ref s.heap.objs.size)
      repeat (any_goals (first | assumption | wp_step))
      refine codeAny_mono (codeAny_call_builtin (R := wants (fun r t2 => r = .none ∧ ∃ h' tk c, t2 = { s with heap := h', toks := tk } ∧ SetR w h' s.heap.objs.size (fun j => decide (j ∈ zs)) c ∧ c ≤ zs.length ∧ (∀ b o, s.heap.get? b = some o → h'.get? b = some o)) E) F.called_set.init.plain F.entry_set_init (check_set_init_1 eT ?_)) fun r2 t2 hr2 => ?_
      · obtain ⟨ob, eb, ec, nl, ed⟩ := il
        obtain ⟨b1, b2, b3, b4⟩ := ob
        simp only at ec ed
        subst ec
        subst ed
        have eb' : (s.heap.push (emp0 w)).get? l = some { cls := .type "list", dict := b2, data := .seq its nl, slots := b4 } := Heap.get?_push_of_some _ eb
        have m9 := F.sub_list_set
        have ma := F.sub_list_frozenset
        have mb : (Value.type "list" == Value.type "dict") = false := by decide
        have il1 : (s.heap.push (emp0 w)).IsList l its := ⟨_, eb', rfl, nl, rfl⟩
        unfold Builtin.«set.__init__» noKeywords Builtin.Frozenset.updateFrom
        generalize hI : pyIter = PI
        wp_walk
        subst hI
        refine wpAny_pyIter_list il1 ?_
        refine wpAny_bind (wpAny_runValue ?_)
        have ll : l < s.heap.objs.size := Heap.lt_size eb
        have ah3 : A.in1.in1.in1.handled = none := by simp [ah]
        have nI : l ≠ (s.heap.push (emp0 w)).objs.size := by rw [Heap.size_push]; exact Nat.ne_of_lt (Nat.lt_succ_of_lt ll)
        have nS : s.heap.objs.size ∉ [(s.heap.push (emp0 w)).objs.size, l] := by
          rw [Heap.size_push]; simp only [List.mem_cons, List.mem_singleton, List.not_mem_nil, or_false, not_or]; exact ⟨Nat.ne_of_lt (Nat.lt_succ_self _), Nat.ne_of_gt ll⟩
        have at_ : ∀ (i : Nat) (v : Value), its[i]? = some v → ∃ k t, zs[i]? = some k ∧ v = .int k t := fun i v hv => by
          have hi : i < zs.length := by rw [← isz]; exact (Array.getElem?_eq_some_iff.mp hv).1
          obtain ⟨t, e⟩ := PyProof.Rows.IntsAre.int_at ia i v (by rw [Array.getElem?_toList]; exact hv)
          refine ⟨zs[i], t, List.getElem?_eq_getElem hi, ?_⟩; rw [e, List.getD_eq_getElem?_getD, List.getElem?_eq_getElem hi] <;> rfl
        refine set_update_ints ((Walks.list ah3 _ l nI its).toS) s.heap.objs.size nS zs isz few at_ (its.size - 0) 0 _ (by omega) (Nat.zero_le _) ⟨⟨_, Heap.get?_push_size _ rfl, rfl, rfl⟩, (il1.push _)⟩ ?z0 ?z1
        case z0 => exact ⟨0, Nat.le_refl 0, setR_new_at (Heap.get?_push_of_some _ eS)⟩
        case z1 =>
          intro t3 c3 mv lc hS'
          obtain ⟨h', g2, d', tk', os'⟩ := t3
          have z1 : g2 = s.gens := mv.gens
          have z2 : d' = s.drawn := mv.drawn
          have z3 : os' = s.os := mv.os
          subst z1
          subst z2
          subst z3
          show wpAny _ _ _ _ _ _; refine wpAny_pure ?_
          show wpAny _ _ (ret Value.none) _ _ _; rw [isz] at lc
          refine wpAny_pure ⟨rfl, h', tk', c3, rfl, hS', lc, fun b o e => ?_⟩
          have y0 : b < s.heap.objs.size := Heap.lt_size e
          have y2 : b ≠ (s.heap.push (emp0 w)).objs.size := by rw [Heap.size_push]; exact Nat.ne_of_lt (Nat.lt_succ_of_lt y0)
          exact mv.heap b o (by simp only [List.mem_cons, List.mem_singleton, List.not_mem_nil, or_false, not_or]; exact ⟨Nat.ne_of_lt y0, y2⟩) (Heap.get?_push_of_some _ (Heap.get?_push_of_some _ e))
      · cases r2 with
        | error e => exact hr2
        | ok fl2 =>
          cases fl2 with
          | ret r =>
            obtain ⟨rfl, h', tk, c', rfl, hS', lc, hk'⟩ := hr2
            repeat (any_goals (first | assumption | wp_step))
            exact go _ _ _ hS' lc hk'
          | _ => exact hr2.elim
    | _ => exact hr.elim
end
def rSetOf (K : PySem.W.Frag) (w : World) : List V → Hp → VK → Prop := fun xs H Q => ∃ (l : Addr) (ns : List Int), xs = [.ref l] ∧ SqL K H l (ns.map V.int) ∧ ns.length < 60 ∧ ∀ p c, H p = none → c ≤ ns.length → Q (.ref p) (upd H p (SetO w p (fun j => decide (j ∈ ns)) c))
theorem rSetOf_r {K : PySem.W.Frag} {w : World} {l : Addr} {H : Hp} {Q : VK} : rSetOf K w [.ref l] H Q = ∃ ns : List Int, SqL K H l (ns.map V.int) ∧ ns.length < 60 ∧ ∀ p c, H p = none → c ≤ ns.length → Q (.ref p) (upd H p (SetO w p (fun j => decide (j ∈ ns)) c)) := propext ⟨fun ⟨_, ns, e, h⟩ => by cases e; exact ⟨ns, h⟩, fun ⟨ns, h⟩ => ⟨l, ns, rfl, h⟩⟩
theorem rSortedSet_r {w : World} {a : Addr} {H : Hp} {Q : VK} : rSortedSet w [.ref a] H Q = ∃ (S : Int → Bool) (n : Nat), H a = some (SetO w a S n) ∧ n < 64 ∧ ∀ (ns : List Int) (p : Addr), ns.Pairwise (· < ·) → (∀ k : Int, k ∈ ns ↔ S k = true) → ns.length = n → H p = none → Q (.ref p) (upd H p (.lst (ns.map V.int))) := propext ⟨fun ⟨_, S, n, e, h⟩ => by cases e; exact ⟨S, n, h⟩, fun ⟨S, n, h⟩ => ⟨a, S, n, rfl, h⟩⟩
end Bk

namespace Bk
open PySem PySem.Spec PyProof.Rows L2
/-! ### where a last stretch begins -/
def fbo (row : Nat → Int) (w : Nat → Option Int) (T : Int) : Nat → Int → Option Nat
  | 0, _ => none
  | m + 1, cost => match w m with
    | none => none
    | some p => if row m + (cost + p) = T then some m else fbo row w T m (cost + p)
/-- rows of a plan: day of baking, day given -/
structure PlanOk (g : Good) (lights : Nat → Int) (n m : Nat) (es : List (Nat × Nat)) : Prop where
  days : (es.map Prod.snd).Perm ((List.range n).filter fun k => decide (m ≤ k ∧ wantN g k ≠ 0))
  price : ∀ e ∈ es, e.1 < n ∧ ∃ p, loafP g e.1 e.2 = some p
/-- what the loaves of a plan cost -/
def loavesE (g : Good) (es : List (Nat × Nat)) : Int := (es.map fun e => wantN g e.2 * (loafP g e.1 e.2).getD 0).sum
structure CheapI (g : Good) (lights row : Nat → Int) (n m : Nat) (es : List (Nat × Nat)) : Prop extends PlanOk g lights n m es where
  cost : litSum lights (fun d => ∃ e ∈ es, e.1 = d) n + loavesE g es + row m ≤ row n
/-- the rows of a stretch -/
def strE (g : Good) (b f m : Nat) : List (Nat × Nat) := (((List.range (m - f)).map fun i => f + i).filter fun k => decide (wantN g k ≠ 0)).map fun k => (b, k)
theorem rExtend_r {l b : Addr} {H : Hp} {Q : VK} : rExtend (.ref l) [.ref b] H Q = ∃ xs zs, H l = some (.lst xs) ∧ H b = some (.lst zs) ∧ xs.length + zs.length ≤ sizeLine ∧ Q .non (upd H l (.lst (xs ++ zs))) := propext ⟨fun ⟨_, _, xs, zs, e1, e2, h⟩ => by cases e1; cases e2; exact ⟨xs, zs, h⟩, fun ⟨xs, zs, h⟩ => ⟨l, b, xs, zs, rfl, rfl, h⟩⟩
theorem rSortU_r {K : PySem.W.Frag} {d : Nat} {B : Int} {a : Addr} {H : Hp} {Q : VK} : rSortU K d B [.ref a] H Q = ∃ xs : List V, SqL K H a xs ∧ xs.length < 64 ∧ (∀ x ∈ xs, ∃ ns, TupI K H x ns ∧ ns.length = d ∧ TS.Bd B ns) ∧ ∀ (ys : List V) (p : Addr), ys.Perm xs → ys.Pairwise (fun x y => ∀ n m, TupI K H x n → TupI K H y m → TS.code B n ≤ TS.code B m) → H p = none → Q (.ref p) (upd H p (.lst ys)) := propext ⟨fun ⟨_, xs, e, h⟩ => by cases e; exact ⟨xs, h⟩, fun ⟨xs, h⟩ => ⟨a, xs, rfl, h⟩⟩
theorem perm_map_inv {α β : Type} {f : α → β} : ∀ {l1 l2 : List β}, l1.Perm l2 → ∀ zs : List α, zs.map f = l1 → ∃ zs', zs.Perm zs' ∧ zs'.map f = l2 := by
  intro l1 l2 h
  induction h with
  | nil => exact fun zs e => ⟨zs, List.Perm.refl _, e⟩
  | cons x _ ih =>
    intro zs e
    cases zs with
    | nil => cases e
    | cons z zs =>
      obtain ⟨e1, e2⟩ := List.cons.inj e
      obtain ⟨zs', h1, h2⟩ := ih zs e2
      exact ⟨z :: zs', h1.cons z, by rw [List.map_cons, e1, h2]⟩
  | swap x y l =>
    intro zs e
    match zs, e with
    | a :: b :: zs, e =>
      obtain ⟨e1, e2⟩ := List.cons.inj e
      obtain ⟨e3, e4⟩ := List.cons.inj e2
      exact ⟨b :: a :: zs, List.Perm.swap b a zs, by rw [List.map_cons, List.map_cons, e1, e3, e4]⟩
  | trans _ _ ih1 ih2 =>
    intro zs e
    obtain ⟨z1, h1, h2⟩ := ih1 zs e
    obtain ⟨z2, h3, h4⟩ := ih2 z1 h2
    exact ⟨z2, h1.trans h3, h4⟩
end Bk

namespace Bk
open PySem PySem.Spec PyProof.Rows L2
/-! ### sorted(..) of tuples of whole numbers, of any number: a dict's keys, a list's items -/
def encT (b : Addr × List Int) : PyData := .tuple (b.2.map PyData.int)
theorem leT (p q : Addr × List Int) : PySem.W.dataLe false encT p q = decide (p.2 ≤ q.2) := by
  show (!PySem.W.dataLt (.tuple (q.2.map .int)) (.tuple (p.2.map .int))) = _
  have e : PySem.W.dataLt (.tuple (q.2.map .int)) (.tuple (p.2.map .int)) = PySem.W.rowLt (q.2.map .int) (p.2.map .int) := rfl
  rw [e, PySem.W.dataLt_ints]
  by_cases h : q.2 < p.2
  · rw [decide_eq_true h]
    symm
    exact decide_eq_false fun z => List.not_lt.mpr z h
  · rw [decide_eq_false h]
    symm
    exact decide_eq_true (List.not_lt.mp h)
theorem sortT_perm (L : List (Addr × List Int)) : (L.mergeSort (PySem.W.dataLe false encT)).Perm L := List.mergeSort_perm L _
theorem sortT_sorted (L : List (Addr × List Int)) : (L.mergeSort (PySem.W.dataLe false encT)).Pairwise (fun p q => p.2 ≤ q.2) := by
  have h := List.pairwise_mergeSort (le := PySem.W.dataLe false encT) (fun a b c h1 h2 => by
    rw [leT] at h1 h2 ⊢
    exact decide_eq_true (List.le_trans (of_decide_eq_true h1) (of_decide_eq_true h2))) (fun a b => by
    rw [leT, leT]
    rcases List.le_total a.2 b.2 with h | h
    · rw [decide_eq_true h]; rfl
    · rw [decide_eq_true h, Bool.or_true]) L
  exact h.imp fun {x y} z => by rw [leT] at z; exact of_decide_eq_true z
theorem reads_ints {h : Heap} : ∀ {ns : List Int} {us : List Value}, Vals (ns.map V.int) us → ReadsAll h us (ns.map PyData.int) []
  | [], us, r => by
    cases r
    exact .nil
  | n :: ns, us, r => by
    cases r with
    | cons h1 h2 =>
      obtain ⟨t, rfl⟩ := h1
      exact ReadsAll.cons (.int n t) (reads_ints h2)
/-- a tracked tuple of whole numbers, read -/
theorem reads_tupI {X : Cx} {pins : List (Addr × Obj)} {σ : L2.St} {H : Hp} {s : Shared} (I : Inv X pins σ H s) {a : Addr} {ns : List Int} (h : H a = some (.tup (ns.map V.int))) : Reads s.heap (.ref a) (.tuple (ns.map PyData.int)) [] := by
  obtain ⟨_, its, rv, o, ho, hc, n, hd⟩ := (show ObjOk X.prog X.w H s.heap a (.tup _) from I.hok a _ h)
  exact Reads.tuple ho hc hd (by simpa using reads_ints rv)
theorem alikeT {L : List (Addr × List Int)} : PySem.W.AllAlike (L.map encT) := PySem.W.AllAlike.of fun b b' => by
  show PySem.W.alikeAll _ _ = true
  exact PySem.W.alike_ints b.2 b'.2
theorem sortableT {L : List (Addr × List Int)} (h : ∀ p ∈ L, p.2 ≠ []) : PySem.W.Sortable (L.map encT) := .inl fun d hd => by
  obtain ⟨b, hb, rfl⟩ := List.mem_map.mp hd
  obtain ⟨a, ns⟩ := b
  cases ns with
  | nil => exact absurd rfl (h _ hb)
  | cons x r => exact ⟨.int x, r.map .int, rfl⟩
theorem depthT (b : Addr × List Int) : (encT b).depth = 1 := by
  show PyData.depth (.tuple _) = 1
  rw [PyData.depth, PySem.W.depth_ints]
def rSorDT : List V → Hp → VK → Prop := fun xs H Q => ∃ (a : Addr) (kvs : List (List Key × V)) (ks : List (List Int)), xs = [.ref a] ∧ H a = some (.dT kvs) ∧ kvs.map (·.1) = ks.map (fun k => k.map Sum.inl) ∧ (∀ k ∈ ks, k ≠ []) ∧
  ∀ (L : List (Addr × List Int)) (p : Addr), (L.map (·.2)).Perm ks → L.Pairwise (fun p q => p.2 ≤ q.2) → (∀ q ∈ L, H q.1 = some (.tup (q.2.map V.int))) → H p = none → Q (.ref p) (upd H p (.lst (L.map fun q => V.ref q.1)))
theorem each_refs : ∀ (L : List (Addr × List Int)), PySem.W.EachIs (fun (v : Value) (b : Addr × List Int) => v = .ref b.1) (L.map fun b => Value.ref b.1) L
  | [] => .nil
  | b :: r => .cons rfl (each_refs r)
theorem of_each_refs : ∀ {vs : List Value} {L : List (Addr × List Int)}, PySem.W.EachIs (fun (v : Value) (b : Addr × List Int) => v = .ref b.1) vs L → vs = L.map fun b => Value.ref b.1
  | _, _, .nil => rfl
  | _, _, .cons h t => by rw [List.map_cons, ← of_each_refs t, h]
theorem each_of {R : Value → (Addr × List Int) → Prop} : ∀ (L : List (Addr × List Int)), (∀ b ∈ L, R (.ref b.1) b) → PySem.W.EachIs R (L.map fun b => Value.ref b.1) L
  | [], _ => .nil
  | b :: r, h => .cons (h b List.mem_cons_self) (each_of r fun c hc => h c (List.mem_cons_of_mem _ hc))
end Bk

namespace Bk
open PySem PySem.Spec PyProof.Rows L2
/-! ### sorted(..) of a list of tuples of whole numbers, of any number -/
theorem refs_are : ∀ {L : List Addr} {us : List Value}, Vals (L.map V.ref) us → us = L.map Value.ref
  | [], us, r => by
    cases r
    rfl
  | a :: L, us, r => by
    cases r with
    | cons h1 h2 =>
      have e : _ = Value.ref a := h1
      rw [refs_are h2, e]
      rfl
def rSorTL (K : PySem.W.Frag) : List V → Hp → VK → Prop := fun xs H Q => ∃ (a : Addr) (L : List (Addr × List Int)), xs = [.ref a] ∧ SqL K H a (L.map fun q => V.ref q.1) ∧ (∀ q ∈ L, H q.1 = some (.tup (q.2.map V.int))) ∧ (∀ q ∈ L, q.2 ≠ []) ∧
  ∀ (L' : List (Addr × List Int)) (p : Addr), L'.Perm L → L'.Pairwise (fun p q => p.2 ≤ q.2) → H p = none → Q (.ref p) (upd H p (.lst (L'.map fun q => V.ref q.1)))
theorem rSorTL_r {K : PySem.W.Frag} {a : Addr} {H : Hp} {Q : VK} : rSorTL K [.ref a] H Q = ∃ (L : List (Addr × List Int)), SqL K H a (L.map fun q => V.ref q.1) ∧ (∀ q ∈ L, H q.1 = some (.tup (q.2.map V.int))) ∧ (∀ q ∈ L, q.2 ≠ []) ∧
  ∀ (L' : List (Addr × List Int)) (p : Addr), L'.Perm L → L'.Pairwise (fun p q => p.2 ≤ q.2) → H p = none → Q (.ref p) (upd H p (.lst (L'.map fun q => V.ref q.1))) := propext ⟨fun ⟨_, L, e, h⟩ => by cases e; exact ⟨L, h⟩, fun ⟨L, h⟩ => ⟨a, L, rfl, h⟩⟩
theorem cr_sorTL {X : Cx} {K : PySem.W.Frag} (hK : X.K = K) (hu : X.A.units + 64 < cLine) : CallR X (.builtin "sorted") (rSorTL K) := by
  subst hK
  intro pins s σ H xs us Q I r h
  obtain ⟨a, L, rfl, hs, hT, hne, q⟩ := h
  obtain ⟨its, rv, hl, hz⟩ := I.list hs
  rw [Vals.ref1 r]
  have ei : its = L.map fun b => Value.ref b.1 := by
    have e : (L.map fun q => V.ref q.1) = (L.map (·.1)).map V.ref := by rw [List.map_map]; rfl
    rw [e] at rv
    rw [refs_are rv, List.map_map]
    rfl
  subst ei
  rw [List.length_map] at hz
  refine PySem.W.sorted_data (enc := encT) (bs := L) hl.isList (each_refs L) (each_of L fun b hb => ⟨[], reads_tupI I (hT b hb)⟩) alikeT (sortableT hne) hz (fun b hb => ?_) fun out hlo hout => ?_
  · rw [depthT]
    omega
  · have eo := of_each_refs hout
    obtain ⟨ep, he'⟩ := PyProof.Rows.sortedAll_at s.heap (L.map fun b => Value.ref b.1) out.toArray
    refine ⟨.ref _, upd H (s.heap.objs.size + 1) (.lst ((L.mergeSort (PySem.W.dataLe false encT)).map fun q => V.ref q.1)), I.laid (t' := s.toks) (fun _ _ => PyProof.Rows.sortedAll_old) (Nat.le_succ _) ⟨?_, out, ep, ?_, he'⟩, rfl, q _ _ (sortT_perm L) (sortT_sorted L) (I.hok.fresh (Nat.le_succ _))⟩
    · rw [List.length_map, (sortT_perm L).length_eq]
      exact hz
    · rw [eo]
      have := vals_refs ((L.mergeSort (PySem.W.dataLe false encT)).map (·.1))
      rw [List.map_map, List.map_map] at this
      exact this
end Bk

namespace Bk
open PySem PySem.Spec PyProof.Rows L2
/-! ### sorted(.., reverse=True) of a list of tuples of whole numbers -/
theorem geT (p q : Addr × List Int) : PySem.W.dataLe true encT p q = decide (q.2 ≤ p.2) := leT q p
theorem sortR_perm (L : List (Addr × List Int)) : (L.mergeSort (PySem.W.dataLe true encT)).Perm L := List.mergeSort_perm L _
theorem sortR_sorted (L : List (Addr × List Int)) : (L.mergeSort (PySem.W.dataLe true encT)).Pairwise (fun p q => q.2 ≤ p.2) := by
  have h := List.pairwise_mergeSort (le := PySem.W.dataLe true encT) (fun a b c h1 h2 => by
    rw [geT, decide_eq_true_eq] at h1 h2 ⊢
    exact List.le_trans h2 h1) (fun a b => by
    rw [geT, geT, Bool.or_eq_true, decide_eq_true_eq, decide_eq_true_eq]
    exact (List.le_total b.2 a.2)) L
  exact h.imp fun z => by rwa [geT, decide_eq_true_eq] at z
def rSorTR (K : PySem.W.Frag) : List V → List V → Hp → VK → Prop := fun xs zs H Q => ∃ (a : Addr) (L : List (Addr × List Int)), xs = [.ref a] ∧ zs = [.bl true] ∧ SqL K H a (L.map fun q => V.ref q.1) ∧ (∀ q ∈ L, H q.1 = some (.tup (q.2.map V.int))) ∧ (∀ q ∈ L, q.2 ≠ []) ∧
  ∀ (L' : List (Addr × List Int)) (p : Addr), L'.Perm L → L'.Pairwise (fun p q => q.2 ≤ p.2) → H p = none → Q (.ref p) (upd H p (.lst (L'.map fun q => V.ref q.1)))
theorem rSorTR_r {K : PySem.W.Frag} {a : Addr} {H : Hp} {Q : VK} : rSorTR K [.ref a] [.bl true] H Q = ∃ (L : List (Addr × List Int)), SqL K H a (L.map fun q => V.ref q.1) ∧ (∀ q ∈ L, H q.1 = some (.tup (q.2.map V.int))) ∧ (∀ q ∈ L, q.2 ≠ []) ∧
  ∀ (L' : List (Addr × List Int)) (p : Addr), L'.Perm L → L'.Pairwise (fun p q => q.2 ≤ p.2) → H p = none → Q (.ref p) (upd H p (.lst (L'.map fun q => V.ref q.1))) := propext ⟨fun ⟨_, L, e, _, h⟩ => by cases e; exact ⟨L, h⟩, fun ⟨L, h⟩ => ⟨a, L, rfl, rfl, h⟩⟩
theorem cr_sorTR {X : Cx} {K : PySem.W.Frag} (hK : X.K = K) (hu : X.A.units + 64 < cLine) : CallRK X (.builtin "sorted") [Str.ofString "reverse"] (rSorTR K) := by
  subst hK
  intro pins s σ H xs zs us ws Q I r rz h
  obtain ⟨a, L, rfl, rfl, hs, hT, hne, q⟩ := h
  obtain ⟨its, rv, hl, hz⟩ := I.list hs
  rw [Vals.ref1 r]
  cases rz with
  | cons rb rr =>
  cases rr
  have eb : _ = Value.bool true := rb
  rw [eb]
  have ei : its = L.map fun b => Value.ref b.1 := by
    have e : (L.map fun q => V.ref q.1) = (L.map (·.1)).map V.ref := by rw [List.map_map]; rfl
    rw [e] at rv
    rw [refs_are rv, List.map_map]
    rfl
  subst ei
  rw [List.length_map] at hz
  refine PySem.W.sorted_rev_data (b := true) (enc := encT) (bs := L) hl.isList (each_refs L) (each_of L fun b hb => ⟨[], reads_tupI I (hT b hb)⟩) alikeT (sortableT hne) hz (fun b hb => ?_) fun out hlo hout => ?_
  · rw [depthT]
    omega
  · have eo := of_each_refs hout
    obtain ⟨ep, he'⟩ := PyProof.Rows.sortedAll_at s.heap (L.map fun b => Value.ref b.1) out.toArray
    have old : s.heap.objs.size ≤ s.heap.objs.size + 1 := Nat.le_succ _
    refine ⟨.ref _, upd H (s.heap.objs.size + 1) (.lst ((L.mergeSort (PySem.W.dataLe true encT)).map fun q => V.ref q.1)), I.laid (t' := s.toks) (fun _ _ z => PyProof.Rows.sortedAll_old z) old ⟨?_, out, ep, ?_, he'⟩, rfl, q _ _ (sortR_perm L) (sortR_sorted L) (I.hok.fresh old)⟩
    · rw [List.length_map, (sortR_perm L).length_eq]
      exact hz
    · rw [eo]
      have := vals_refs ((L.mergeSort (PySem.W.dataLe true encT)).map (·.1))
      rw [List.map_map, List.map_map] at this
      exact this
/-- two numbers in a row, by their order -/
theorem pair_le {a b c d : Int} (h : [a, b] ≤ [c, d]) : a < c ∨ (a = c ∧ b ≤ d) := by
  rw [← List.not_lt] at h
  simp only [List.cons_lt_cons_iff, List.not_lt_nil, and_false, or_false] at h
  omega
end Bk

namespace Bk
open PySem PySem.Spec PyProof.Rows L2
/-! ### t > u, of tuples of numbers -/
def gtL (us vs : List Int) : Bool := Ob.lexAt (fun i => decide (us.getD i 0 = vs.getD i 0)) (fun i => decide (vs.getD i 0 < us.getD i 0)) (decide (vs.length < us.length)) 0 (min us.length vs.length)
def rGtT (K : PySem.W.Frag) : R2 := fun x y H Q => ∃ (p q : Addr) (us vs : List Int), x = .ref p ∧ y = .ref q ∧ SqT K H p (us.map V.int) ∧ SqT K H q (vs.map V.int) ∧ Q (.bl (gtL us vs)) H
theorem rGtT_r {K : PySem.W.Frag} {p q : Addr} {H : Hp} {Q : VK} : rGtT K (.ref p) (.ref q) H Q = ∃ us vs, SqT K H p (us.map V.int) ∧ SqT K H q (vs.map V.int) ∧ Q (.bl (gtL us vs)) H :=
  propext ⟨fun ⟨_, _, us, vs, e1, e2, h⟩ => by cases e1; cases e2; exact ⟨us, vs, h⟩, fun ⟨us, vs, h⟩ => ⟨p, q, us, vs, rfl, rfl, h⟩⟩
end Bk

namespace Bk
open PySem PySem.Spec PyProof.Rows L2
/-! ### an error that was caught, and is kept behind the suite -/
def ExK (cls : Value) (d : Option Addr) (a : Addr) : HO := .ext fun h => ∃ (oe : Obj) (vs : Array Value), h.get? a = some oe ∧ Zc cls d oe ∧ oe.data = .fields vs
section
variable {X : Cx} {pins : List (Addr × Obj)} {σ : L2.St} {H : Hp} {s : Shared}
/-- what is wished for at a try whose suite keeps the error -/
def wKeep (K : PySem.W.Frag) (c : Value) (i : Nat) (ts : Addr → Value → Option Addr → TS) (Wout : WX) (D : Ends) : WX := fun cls d σ H =>
  ∃ b, PySem.W.exmOne K cls c = some b ∧ (b = false → Wout cls d σ H) ∧ (b = true → ∀ a, H a = none →
    ts a cls d { nx := fun σ' H' => D.nx (σ'.set i none) (upd H' a (ExK cls d a)), rt := fun _ _ => False, bk := fun _ _ => False, ct := fun _ _ => False } (σ.set i (some (.ref a))) H)
end
/-! ### isinstance of a kept error -/
/-- the dict of an error, where it has one, is tracked -/
def DictIn (H : Hp) : Option Addr → Prop
  | none => True
  | some dx => ∃ fs, H dx = some (.xd fs)
theorem DictIn.same {H H' : Hp} {d : Option Addr} (h : DictIn H d) (s : Same H H') : DictIn H' d := by
  cases d with
  | none => trivial
  | some dx =>
    obtain ⟨fs, e⟩ := h
    exact ⟨fs, s _ _ e⟩
def rIsX (K : PySem.W.Frag) : List V → Hp → VK → Prop := fun xs H Q => ∃ (a C : Addr) (d : Option Addr) (c : V) (cv : Value) (b : Bool), xs = [.ref a, c] ∧ H a = some (ExK (.ref C) d a) ∧ DictIn H d ∧ ExcC K C ∧ RelV c cv ∧ (∀ u, RelV c u → u = cv) ∧ PySem.W.kitOne K (.ref C) cv = some b ∧ Q (.bl b) H
/-! ### errors made of a text -/
structure Err1 (K : PySem.W.Frag) (mg : Str → Option Value) (x : Str) (C : Addr) : Prop where
  g : mg x = some (.ref C)
  q : PySem.W.excIn K C [.type "ValueError", .type "Exception", .type "BaseException", .type "object"] "ValueError.__new__" = true
  k : PySem.W.keepIn K (.ref C) = true
  s : PySem.W.subIn K (.ref C) (.type "BaseException") = some true
  t : PySem.W.typeIn K (.ref C) = some (.type "type")
/-! ### promises joined -/
theorem fnDrop {P : Program} {w : World} {K : PySem.W.Frag} {mg : Str → Option Value} {base : Heap} {k : Nat} {f : Addr} {fd : FuncData} {ps : List Str} {sp sp' : Sp} (F : FnOk P w K mg base (L2.CX P w) k f fd ps sp) (h : ∀ vs H Q E, sp' vs H Q E → sp vs H Q E0) : FnOk P w K mg base CX0 k f fd ps sp' :=
  ⟨fun vs H Q E q => F.len vs H Q E0 (h vs H Q E q), fun A outer s H args us vs Q E hr he hb hv q => codeAny_mono (F.run A outer s H args us vs Q E0 hr he hb hv (h vs H Q E q)) fun r s' hq => by
    cases r with
    | error e =>
      obtain ⟨_, _, _, _, _, _, _, _, _, _, _, _, z⟩ := hq
      exact z
    | ok fl => cases fl <;> exact hq⟩
theorem DefX.drop {P : Program} {w : World} {K : PySem.W.Frag} {mg : Str → Option Value} {base : Heap} {x : Str} {k : Nat} {ps : List Str} {sp sp' : Sp} (D : DefX P w K mg base x k ps sp) (h : ∀ vs H Q E, sp' vs H Q E → sp vs H Q E0) : Def P w K mg base x k ps sp' := by
  obtain ⟨f, fd, h1, h2, h3, h4⟩ := D.ex
  exact ⟨f, fd, h1, h2, h3, fnDrop h4 h⟩
theorem DefX.imp {P : Program} {w : World} {K : PySem.W.Frag} {mg : Str → Option Value} {base : Heap} {x : Str} {k : Nat} {ps : List Str} {sp sp' : Sp} (D : DefX P w K mg base x k ps sp) (h : ∀ vs H Q E, sp' vs H Q E → sp vs H Q E) : DefX P w K mg base x k ps sp' := by
  obtain ⟨f, fd, h1, h2, h3, h4⟩ := D.ex
  exact ⟨f, fd, h1, h2, h3, h4.imp h⟩
/-! ### what an error is called -/
/-- isinstance's answers for the errors of a class -/
structure Kinds (K : PySem.W.Frag) (C : Addr) (cs : List Addr) (ks : List Bool) : Prop where
  T : ExcC K C
  each : ∀ (i : Nat) (c : Addr), cs[i]? = some c → ∃ b, ks[i]? = some b ∧ PySem.W.kitOne K (.ref C) (.ref c) = some b
  base : PySem.W.kitOne K (.ref C) (.type "ValueError") = some true
def named : List Str → List Bool → List Str
  | n :: ns, k :: ks => if k = true then n :: named ns ks else named ns ks
  | _, _ => []
end Bk

namespace Bk
open PySem PySem.Spec PyProof.Rows L2
/-! ### isinstance of a kept error, many classes; its fields -/
def rIsXT (K : PySem.W.Frag) : List V → Hp → VK → Prop := fun xs H Q => ∃ (a C tp : Addr) (d : Option Addr) (cs : List V) (us : List Value) (b : Bool), xs = [.ref a, .ref tp] ∧ H a = some (ExK (.ref C) d a) ∧ DictIn H d ∧ ExcC K C ∧ H tp = some (.tup cs) ∧ Paired ClsV cs us ∧ PySem.W.kitAny K (.ref C) us = some b ∧ Q (.bl b) H
/-- a field of a kept error -/
def tXk (K : PySem.W.Frag) (n : Str) (te : TE) : TE := fun σ H Q => te σ H fun x H1 => ∃ (a C dd : Addr) (fs : List (Str × V)) (v : V), x = .ref a ∧ H1 a = some (ExK (.ref C) (some dd) a) ∧ XfC K C ∧ PySem.W.findIn K (.ref C) n = some none ∧ H1 dd = some (.xd fs) ∧ fs.lookup n = some v ∧ Q v H1
end Bk

namespace Bk
open PySem PySem.Spec PyProof.Rows L2
/-! ### errors made as values -/
def tMade (t : L2.St → Hp → XK → Prop) : TE := fun σ H Q => t σ H fun cls d H1 => ∀ a, H1 a = none → Q (.ref a) (upd H1 a (ExK cls d a))
/-- C(e), a class without own init -/
def tMk1 (C : Addr) (te : TE) : TE := fun σ H Q => te σ H fun _ H1 => ∀ a, H1 a = none → Q (.ref a) (upd H1 a (ExK (.ref C) none a))
/-- C(u, v), a class whose init keeps both -/
def tMk2 (K : PySem.W.Frag) (C : Addr) (f1 f2 : Str) (ta : TA) : TE := fun σ H Q => ta σ H fun vs H1 => rRaise2 K C f1 f2 (fun cls d _ H2 => ∀ a, H2 a = none → Q (.ref a) (upd H2 a (ExK cls d a))) σ vs H1
/-! ### the init of an error with one field -/
def spInit1 (K : PySem.W.Frag) (C : Addr) (f1 : Str) : Sp := fun vs H Q _ => ∃ (a : Addr) (u : V), vs = [.ref a, u] ∧ smV u ∧ H a = some (exo a C none) ∧ ∀ dx, H dx = none → dx ≠ a → Q .non (upd (upd H dx (exd dx [(f1, u)])) a (exo a C (some dx)))
structure Err1f (P : Program) (w : World) (K : PySem.W.Frag) (mg : Str → Option Value) (base : Heap) (x : Str) (C : Addr) (f1 : Str) : Prop where
  g : mg x = some (.ref C)
  T : OexC K C
  init : ∃ (fI : Addr) (fd : FuncData), PySem.W.findIn K (.ref C) "__init__" = some (some (.ref fI)) ∧ PySem.W.typeIn K (.ref fI) = some (.type "function") ∧ Binds K fd ["self", f1] [] ∧ FnOk P w K mg base CX0 1 fI fd ["self", f1] (spInit1 K C f1)
def rMk1f (K : PySem.W.Frag) (C : Addr) (f1 : Str) (Q : XK) (vs : List V) (H1 : Hp) : Prop := vs.length ≤ 1000 ∧ ∀ a, H1 a = none → spInit1 K C f1 (.ref a :: (vs ++ [])) (upd H1 a (exo a C none))
  (fun v H2 => v = .non ∧ ∃ (d : Addr) (fs : List (Str × V)), H2 a = some (exo a C (some d)) ∧ H2 d = some (exd d fs) ∧ H1 d = none ∧ Q (.ref C) (some d) (upd (del H2 a) d (.xd fs))) (fun _ _ _ => False)
def tMk1f (K : PySem.W.Frag) (C : Addr) (f1 : Str) (ta : TA) : TE := fun σ H Q => ta σ H fun vs H1 => rMk1f K C f1 (fun cls d H2 => ∀ a, H2 a = none → Q (.ref a) (upd H2 a (ExK cls d a))) vs H1
end Bk

namespace Bk
open PySem PySem.Spec PyProof.Rows L2
/-! ### an error of one field, raised -/
def rRaise1f (K : PySem.W.Frag) (C : Addr) (f1 : Str) (W : WX) (σ : L2.St) (vs : List V) (H1 : Hp) : Prop := vs.length ≤ 1000 ∧ ∀ a, H1 a = none → spInit1 K C f1 (.ref a :: (vs ++ [])) (upd H1 a (exo a C none))
  (fun v H2 => v = .non ∧ ∃ (d : Addr) (fs : List (Str × V)), H2 a = some (exo a C (some d)) ∧ H2 d = some (exd d fs) ∧ H1 d = none ∧ W (.ref C) (some d) σ (upd (del H2 a) d (.xd fs))) (fun _ _ _ => False)
def tRaise1f (K : PySem.W.Frag) (C : Addr) (f1 : Str) (W : WX) (ta : TA) : TS := fun _ σ H => ta σ H fun vs H1 => rRaise1f K C f1 W σ vs H1
end Bk

namespace Bk
open PySem PySem.Spec PyProof.Rows L2
/-! ### {a for a, b, c, d in xs}: the first parts of a list's tuples, whole numbers, as a set -/
section
variable {X : Cx}
/-- what stands while the block runs -/
structure Runs2 (X : Cx) (s1 : Shared) (D C : Addr) (zs : List (Addr × Int)) (i : Nat) (t : Shared) : Prop where
  only : ∃ h tk, t = { s1 with heap := h, toks := tk }
  old : ∀ b o, s1.heap.get? b = some o → t.heap.get? b = some o
  set : ∃ ds : List Int, ds.Nodup ∧ (∀ d ∈ ds, d ∈ (zs.take i).map (·.2)) ∧ SetR X.w t.heap D (fun j => decide (j ∈ (zs.take i).map (·.2))) ds.length
  names : ∃ m, t.heap.Ns C m
def tScT2 (K : PySem.W.Frag) (w : World) (at2 : Bool) (te : TE) : TE := fun σ H Q => te σ H fun x H1 => ∃ (p : Addr) (zs : List (Addr × Int)) (N : Nat), x = .ref p ∧ SqL K H1 p (zs.map fun z => V.ref z.1) ∧ (∀ z ∈ zs, ∃ a b c d, SqT K H1 z.1 [a, b, c, d] ∧ (if at2 = true then b else a) = .int z.2) ∧ (∀ z ∈ zs, 0 ≤ z.2 ∧ z.2 < N) ∧ N < 60 ∧ ∀ D n, H1 D = none → n ≤ N → Q (.ref D) (upd H1 D (SetO w D (fun j => decide (j ∈ zs.map (·.2))) n))
end
end Bk

namespace Bk
open PySem PySem.Spec PyProof.Rows L2
/-! ### a def that asks repr, called where no text of a container is being written -/
structure DefG (P : Program) (w : World) (K : PySem.W.Frag) (mg : Str → Option Value) (base : Heap) (x : Str) (k : Nat) (ps : List Str) (sp : Sp) : Prop where
  ex : ∃ (f : Addr) (fd : FuncData), mg x = some (.ref f) ∧ PySem.W.keepIn K (.ref f) = true ∧ Binds K fd ps [] ∧ RunG P w K mg base k f fd ps sp
end Bk

namespace Bk
open PySem PySem.Spec PyProof.Rows L2
/-! ### rows of four whole numbers, and lists of them -/
abbrev K3 := Nat × Nat × Nat
structure Row4 where
  a : Nat
  b : Nat
  c : Nat
  m : Int
def Row4.k (r : Row4) : K3 := (r.a, r.b, r.c)
def rowD (r : Row4) : PyData := .tuple [.int (r.a : Int), .int (r.b : Int), .int (r.c : Int), .int r.m]
def planD (L : List Row4) : PyData := .list (L.map rowD)
theorem Th.row {K : PySem.W.Frag} {H : Hp} {x : V} {r : Row4} (h : Th K H x (rowD r)) : ∃ t, x = .ref t ∧ SqT K H t [.int (r.a : Int), .int (r.b : Int), .int (r.c : Int), .int r.m] := by
  cases h with
  | tup ht hta =>
  cases hta with
  | cons t1 hta => cases hta with
  | cons t2 hta => cases hta with
  | cons t3 hta => cases hta with
  | cons t4 hta =>
  cases hta
  cases t1; cases t2; cases t3; cases t4
  exact ⟨_, rfl, ht⟩
theorem rows_of {K : PySem.W.Frag} {H : Hp} : ∀ {xs : List V} {L : List Row4}, ThAll K H xs (L.map rowD) → ∃ zs : List (Addr × Row4), xs = zs.map (fun z => V.ref z.1) ∧ zs.map (·.2) = L ∧ ∀ z ∈ zs, SqT K H z.1 [.int (z.2.a : Int), .int (z.2.b : Int), .int (z.2.c : Int), .int z.2.m]
  | xs, [], h => by
    have h : ThAll K H xs [] := h
    cases h
    exact ⟨[], rfl, rfl, fun z hz => by cases hz⟩
  | xs, r :: L, h => by
    have h : ThAll K H xs (rowD r :: L.map rowD) := h
    cases h with
    | cons h1 h2 =>
      obtain ⟨zs, e1, e2, e3⟩ := rows_of h2
      obtain ⟨t, rfl, ht⟩ := h1.row
      refine ⟨(t, r) :: zs, by rw [e1]; rfl, by rw [List.map_cons, e2], fun z hz => ?_⟩
      rcases List.mem_cons.mp hz with rfl | hz
      · exact ht
      · exact e3 z hz
theorem Th.plan {K : PySem.W.Frag} {H : Hp} {x : V} {L : List Row4} (h : Th K H x (planD L)) : ∃ (p : Addr) (zs : List (Addr × Row4)), x = .ref p ∧ SqL K H p (zs.map fun z => V.ref z.1) ∧ zs.map (·.2) = L ∧ ∀ z ∈ zs, SqT K H z.1 [.int (z.2.a : Int), .int (z.2.b : Int), .int (z.2.c : Int), .int z.2.m] := by
  cases h with
  | lst hl ht =>
    obtain ⟨zs, e1, e2, e3⟩ := rows_of ht
    subst e1
    exact ⟨_, zs, rfl, hl, e2, e3⟩
def SmallR (L : List Row4) : Prop := L.length ≤ 500 ∧ ∀ r ∈ L, r.a < 1000 ∧ r.b < 1000 ∧ r.c < 1000 ∧ r.m.natAbs < 10 ^ 12
/-! ### dicts whose keys are three numbers -/
def key3 (k : K3) : List Key := [Sum.inl (k.1 : Int), Sum.inl (k.2.1 : Int), Sum.inl (k.2.2 : Int)]
def keyI3 (k : K3) : List Int := [(k.1 : Int), (k.2.1 : Int), (k.2.2 : Int)]
abbrev E3 := List (K3 × Int)
def mk3 (es : E3) : List (List Key × V) := es.map fun e => (key3 e.1, V.int e.2)
def look3 (es : E3) (k : K3) : Option Int := (es.find? fun e => decide (e.1 = k)).map (·.2)
def put3 (es : E3) (k : K3) (v : Int) : E3 := if (es.any fun e => decide (e.1 = k)) = true then es.map (fun e => if e.1 = k then (e.1, v) else e) else es ++ [(k, v)]
def add3 (es : E3) (k : K3) (m : Int) : E3 := put3 es k ((look3 es k).getD 0 + m)
/-- what all entries come to -/
def sum3 (f : K3 → Int) (es : E3) : Int := (es.map fun e => e.2 * f e.1).sum
theorem sum3_cons (f : K3 → Int) (e : K3 × Int) (es : E3) : sum3 f (e :: es) = e.2 * f e.1 + sum3 f es := by
  unfold sum3
  rw [List.map_cons, List.sum_cons]
theorem any3 {es : E3} {k : K3} : (es.any fun e => decide (e.1 = k)) = true ↔ k ∈ es.map (·.1) := by
  rw [List.any_eq_true, List.mem_map]
  constructor
  · rintro ⟨e, h1, h2⟩
    exact ⟨e, h1, of_decide_eq_true h2⟩
  · rintro ⟨e, h1, h2⟩
    exact ⟨e, h1, decide_eq_true h2⟩
theorem add3_keys (es : E3) (k : K3) (m : Int) : (add3 es k m).map (·.1) = if k ∈ es.map (·.1) then es.map (·.1) else es.map (·.1) ++ [k] := by
  unfold add3 put3
  by_cases h : k ∈ es.map (·.1)
  · rw [if_pos (any3.mpr h), if_pos h, List.map_map]
    congr 1
    funext x
    show (if x.1 = k then (x.1, _) else x).1 = x.1
    split <;> rfl
  · rw [if_neg fun z => h (any3.mp z), if_neg h, List.map_append]
    rfl
theorem add3_nodup {es : E3} {k : K3} {m : Int} (h : (es.map (·.1)).Nodup) : ((add3 es k m).map (·.1)).Nodup := by
  rw [add3_keys]
  split
  · exact h
  · rename_i hn
    rw [List.nodup_append]
    refine ⟨h, by simp, fun a ha b hb e => ?_⟩
    rw [List.mem_singleton.mp hb] at e
    rw [e] at ha
    exact hn ha
theorem add3_key {es : E3} {k j : K3} {m : Int} : j ∈ (add3 es k m).map (·.1) ↔ j ∈ es.map (·.1) ∨ j = k := by
  rw [add3_keys]
  split
  · rename_i h
    exact ⟨.inl, fun z => z.elim id fun e => by rw [e]; exact h⟩
  · rw [List.mem_append, List.mem_singleton]
theorem add3_len (es : E3) (k : K3) (m : Int) : (add3 es k m).length ≤ es.length + 1 := by
  have := congrArg List.length (add3_keys es k m)
  rw [List.length_map] at this
  rw [this]
  split
  · rw [List.length_map]; omega
  · rw [List.length_append, List.length_map, List.length_singleton]
    omega
theorem map_put {es : E3} {k : K3} {v : Int} {f : K3 → Int} (h : k ∉ es.map (·.1)) : (es.map fun e => if e.1 = k then (e.1, v) else e) = es := by
  induction es with
  | nil => rfl
  | cons e r ih =>
    rw [List.map_cons, List.mem_cons, not_or] at h
    rw [List.map_cons, if_neg (fun z => h.1 z.symm), ih h.2]
theorem add3_sum {es : E3} {k : K3} {m : Int} (f : K3 → Int) (h : (es.map (·.1)).Nodup) : sum3 f (add3 es k m) = sum3 f es + m * f k := by
  unfold add3 put3
  by_cases hk : k ∈ es.map (·.1)
  · rw [if_pos (any3.mpr hk)]
    induction es with
    | nil => cases hk
    | cons e r ih =>
      rw [List.map_cons, List.nodup_cons] at h
      by_cases he : e.1 = k
      · have hl : look3 (e :: r) k = some e.2 := by
          unfold look3
          rw [List.find?_cons_of_pos (p := fun e : K3 × Int => decide (e.1 = k)) (decide_eq_true he)]
          rfl
        rw [hl, List.map_cons, if_pos he, sum3_cons, sum3_cons, map_put (f := f) (by rw [← he]; exact h.1), he]
        simp only [Option.getD_some]
        rw [Int.add_mul]
        omega
      · have hl : look3 (e :: r) k = look3 r k := by
          unfold look3
          rw [List.find?_cons_of_neg (p := fun e : K3 × Int => decide (e.1 = k)) (fun z => he (of_decide_eq_true z))]
        have hk2 : k ∈ r.map (·.1) := by
          rcases List.mem_cons.mp hk with z | z
          · exact absurd z.symm he
          · exact z
        rw [hl, List.map_cons, if_neg he, sum3_cons, sum3_cons, ih h.2 hk2]
        omega
  · rw [if_neg fun z => hk (any3.mp z)]
    have hl : look3 es k = none := by
      unfold look3
      rw [Option.map_eq_none_iff, List.find?_eq_none]
      intro e he z
      exact hk (List.mem_map.mpr ⟨e, he, of_decide_eq_true z⟩)
    rw [hl]
    unfold sum3
    rw [List.map_append, List.sum_append]
    simp
theorem look3_val {es : E3} {k : K3} {v : Int} (h : look3 es k = some v) : (k, v) ∈ es := by
  unfold look3 at h
  obtain ⟨e, he, ev⟩ := Option.map_eq_some_iff.mp h
  have h0 := List.find?_some he
  have h1 : e.1 = k := of_decide_eq_true h0
  rw [← h1, ← ev]
  exact List.mem_of_find?_eq_some he
theorem add3_mem {es : E3} {k j : K3} {m v : Int} (h : (j, v) ∈ add3 es k m) : (j, v) ∈ es ∨ (j = k ∧ v = (look3 es k).getD 0 + m) := by
  unfold add3 put3 at h
  split at h
  · obtain ⟨e, he, z⟩ := List.mem_map.mp h
    split at z
    · rename_i hk
      cases z
      exact .inr ⟨hk, rfl⟩
    · rw [z] at he
      exact .inl he
  · rcases List.mem_append.mp h with h | h
    · exact .inl h
    · cases List.mem_singleton.mp h
      exact .inr ⟨rfl, rfl⟩
/-- the entries' values, all from 0 to c -/
def Vals3 (es : E3) (c : Int) : Prop := ∀ e ∈ es, 0 ≤ e.2 ∧ e.2 ≤ c
theorem Vals3.add {es : E3} {k : K3} {m c d : Int} (h : Vals3 es c) (h0 : 0 ≤ m) (h1 : m ≤ d) (hd : 0 ≤ c) : Vals3 (add3 es k m) (c + d) := by
  rintro ⟨j, v⟩ hv
  show 0 ≤ v ∧ v ≤ c + d
  rcases add3_mem hv with hv | ⟨_, rfl⟩
  · have : 0 ≤ v ∧ v ≤ c := h _ hv
    omega
  · cases hl : look3 es k with
    | none => show 0 ≤ 0 + m ∧ 0 + m ≤ c + d; omega
    | some u =>
      have : 0 ≤ u ∧ u ≤ c := h _ (look3_val hl)
      show 0 ≤ u + m ∧ u + m ≤ c + d
      omega
/-- rows of entries -/
def rowE (e : K3 × Int) : Row4 := ⟨e.1.1, e.1.2.1, e.1.2.2, e.2⟩
def sumR (f : K3 → Int) (L : List Row4) : Int := (L.map fun r => r.m * f r.k).sum
theorem sum_permI {l m : List Int} (h : l.Perm m) : l.sum = m.sum := by
  induction h with
  | nil => rfl
  | cons x _ ih => rw [List.sum_cons, List.sum_cons, ih]
  | swap x y l => rw [List.sum_cons, List.sum_cons, List.sum_cons, List.sum_cons]; omega
  | trans _ _ h1 h2 => exact h1.trans h2
theorem sum3_perm {f : K3 → Int} {es fs : E3} (h : es.Perm fs) : sum3 f es = sum3 f fs := sum_permI (h.map _)
/-- lights of the days that a part of the rows names -/
noncomputable def litR (L : Nat → Int) (n : Nat) (ds : List Nat) : Int := litSum L (fun d => d ∈ ds) n
theorem rSorDT_r {a : Addr} {H : Hp} {Q : VK} : rSorDT [.ref a] H Q = ∃ (kvs : List (List Key × V)) (ks : List (List Int)), H a = some (.dT kvs) ∧ kvs.map (·.1) = ks.map (fun k => k.map Sum.inl) ∧ (∀ k ∈ ks, k ≠ []) ∧
  ∀ (L : List (Addr × List Int)) (p : Addr), (L.map (·.2)).Perm ks → L.Pairwise (fun p q => p.2 ≤ q.2) → (∀ q ∈ L, H q.1 = some (.tup (q.2.map V.int))) → H p = none → Q (.ref p) (upd H p (.lst (L.map fun q => V.ref q.1))) := propext ⟨fun ⟨_, kvs, ks, e, h⟩ => by cases e; exact ⟨kvs, ks, h⟩, fun ⟨kvs, ks, h⟩ => ⟨a, kvs, ks, rfl, h⟩⟩
/-- the price of a row's loaf -/
def priceB (b : Bak) (k : K3) : Int := match b.goods[k.2.1]? with
  | some g => (loafP g k.1 k.2.2).getD 0
  | none => 0
structure FitR (b : Bak) (n : Nat) (r : Row4) : Prop where
  a : r.a < n
  c : r.c < n
  m : 0 ≤ r.m ∧ r.m ≤ 1000000000000
  p : ∃ g, b.goods[r.b]? = some g ∧ ∃ p, loafP g r.a r.c = some p
noncomputable def costB (b : Bak) (L : List Row4) : Int := litR (rowF b.lights) b.lights.length (L.map Row4.a) + sumR (priceB b) L
end Bk

namespace Bk
open PySem PySem.Spec PyProof.Rows L2
/-! ### set(xs) of up to sixty whole numbers -/
def rSetOf2 (K : PySem.W.Frag) (w : World) : List V → Hp → VK → Prop := fun xs H Q => ∃ (l : Addr) (ns : List Int), xs = [.ref l] ∧ SqL K H l (ns.map V.int) ∧ ns.length ≤ 60 ∧ ∀ p c, H p = none → c ≤ ns.length → Q (.ref p) (upd H p (SetO w p (fun j => decide (j ∈ ns)) c))
theorem rSetOf2_r {K : PySem.W.Frag} {w : World} {l : Addr} {H : Hp} {Q : VK} : rSetOf2 K w [.ref l] H Q = ∃ ns : List Int, SqL K H l (ns.map V.int) ∧ ns.length ≤ 60 ∧ ∀ p c, H p = none → c ≤ ns.length → Q (.ref p) (upd H p (SetO w p (fun j => decide (j ∈ ns)) c)) := propext ⟨fun ⟨_, ns, e, h⟩ => by cases e; exact ⟨ns, h⟩, fun ⟨ns, h⟩ => ⟨l, ns, rfl, h⟩⟩
/-! ### doughs -/
structure Dgh where
  mix : Int
  dough : Int
  hold : Int
def dghD (d : Dgh) : PyData := .tuple [.int d.mix, .int d.dough, .int d.hold]
def doughsD (ds : List Dgh) : PyData := .list (ds.map dghD)
def dghB : PyData → Bool
  | .tuple [a, b, c] => numD a && numD b && numD c
  | _ => false
def dghAt (ds : List Dgh) (i : Nat) : Dgh := ds.getD i ⟨0, 0, 0⟩
def holdS (ds : List Dgh) (r k : Nat) : Int := (((ds.drop r).take k).map Dgh.hold).sum
def doughP (ds : List Dgh) (r s : Nat) : Int := (dghAt ds r).dough + holdS ds r (s - r)
theorem Th.doughs {K : PySem.W.Frag} {H : Hp} {x : V} {ds : List Dgh} (h : Th K H x (doughsD ds)) : ∃ p xs, x = .ref p ∧ SqL K H p xs ∧ ThAll K H xs (ds.map dghD) := by
  cases h with
  | lst hl ht => exact ⟨_, _, rfl, hl, ht⟩
/-! ### what entries come to, all nonnegative -/
def Tot3 (es : E3) (T : Int) : Prop := (∀ e ∈ es, 0 ≤ e.2) ∧ sum3 (fun _ => 1) es ≤ T
theorem Tot3.le {es : E3} {T : Int} (h : Tot3 es T) : ∀ e ∈ es, 0 ≤ e.2 ∧ e.2 ≤ T := by
  intro e he
  refine ⟨h.1 e he, Int.le_trans ?_ h.2⟩
  have h1 := h.1
  clear h
  induction es with
  | nil => cases he
  | cons x r ih =>
    rw [sum3_cons, Int.mul_one]
    have hr : 0 ≤ sum3 (fun _ => 1) r := by
      unfold sum3
      have : ∀ z ∈ (r.map fun e : K3 × Int => e.2 * 1), 0 ≤ z := fun z hz => by
        obtain ⟨y, hy, rfl⟩ := List.mem_map.mp hz
        have := h1 y (List.mem_cons_of_mem _ hy)
        omega
      generalize (r.map fun e : K3 × Int => e.2 * 1) = l at this
      induction l with
      | nil => exact Int.le_refl 0
      | cons a b ih2 =>
        rw [List.sum_cons]
        have := this a List.mem_cons_self
        have := ih2 fun z hz => by rename_i t; exact t z (List.mem_cons_of_mem _ hz)
        omega
    rcases List.mem_cons.mp he with rfl | he
    · omega
    · have := ih he fun y hy => h1 y (List.mem_cons_of_mem _ hy)
      have := h1 x List.mem_cons_self
      omega
theorem Tot3.nil : Tot3 [] 0 := ⟨(fun e he => by cases he), Int.le_refl 0⟩
theorem Tot3.add {es : E3} {k : K3} {m T : Int} (hn : (es.map (·.1)).Nodup) (h : Tot3 es T) (h0 : 0 ≤ m) : Tot3 (add3 es k m) (T + m) := by
  refine ⟨?_, ?_⟩
  · rintro ⟨j, v⟩ hv
    rcases add3_mem hv with hv | ⟨_, rfl⟩
    · exact h.1 _ hv
    · cases hl : look3 es k with
      | none => show 0 ≤ 0 + m; omega
      | some u =>
        have : 0 ≤ u := h.1 _ (look3_val hl)
        show 0 ≤ u + m
        omega
  · rw [add3_sum _ hn]
    have := h.2
    omega
theorem Tot3.mono {es : E3} {T U : Int} (h : Tot3 es T) (hu : T ≤ U) : Tot3 es U := ⟨h.1, Int.le_trans h.2 hu⟩
end Bk

namespace Bk
open PySem PySem.Spec PyProof.Rows L2
/-! ### plans with doughs, and what they cost -/
def mixF (ds : List Dgh) (d : Nat) : Int := (dghAt ds d).mix
def priceD (ds : List Dgh) (g : Good) (k : K3) : Int := doughP ds k.1 k.2.1 + (loafP g k.2.1 k.2.2).getD 0
structure KeyD (g : Good) (n : Nat) (k : K3) : Prop where
  ab : k.1 ≤ k.2.1
  b : k.2.1 < n
  c : k.2.2 < n
  p : ∃ p, loafP g k.2.1 k.2.2 = some p
def sumM (L : List Row4) : Int := (L.map Row4.m).sum
/-- what is known of a plan that is handed in -/
structure PlanF (g : Good) (n : Nat) (L : List Row4) : Prop where
  keys : ∀ r ∈ L, KeyD g n r.k
  pos : ∀ r ∈ L, 0 < r.m
  tot : sumM L ≤ 100000000000
  len : L.length ≤ 60
noncomputable def costD (ds : List Dgh) (ls : List Int) (g : Good) (n : Nat) (L : List Row4) : Int := litR (mixF ds) n (L.map Row4.a) + litR (rowF ls) n (L.map Row4.b) + sumR (priceD ds g) L
theorem sumM_cons (r : Row4) (L : List Row4) : sumM (r :: L) = r.m + sumM L := by
  unfold sumM
  rw [List.map_cons, List.sum_cons]
theorem sumM_nonneg {L : List Row4} (h : ∀ r ∈ L, 0 < r.m) : 0 ≤ sumM L := by
  induction L with
  | nil => exact Int.le_refl 0
  | cons r L ih =>
    rw [sumM_cons]
    have := h r List.mem_cons_self
    have := ih fun x hx => h x (List.mem_cons_of_mem _ hx)
    omega
theorem sumM_le {L : List Row4} (h : ∀ r ∈ L, 0 < r.m) : ∀ r ∈ L, r.m ≤ sumM L := by
  induction L with
  | nil => intro r hr; cases hr
  | cons x L ih =>
    intro r hr
    rw [sumM_cons]
    have h2 : ∀ r ∈ L, 0 < r.m := fun y hy => h y (List.mem_cons_of_mem _ hy)
    have := sumM_nonneg h2
    have := h x List.mem_cons_self
    rcases List.mem_cons.mp hr with rfl | hr
    · omega
    · have := ih h2 r hr
      omega
theorem PlanF.m {g : Good} {n : Nat} {L : List Row4} (h : PlanF g n L) : ∀ r ∈ L, 0 < r.m ∧ r.m ≤ 100000000000 := fun r hr => ⟨h.pos r hr, Int.le_trans (sumM_le h.pos r hr) h.tot⟩
theorem PlanF.small {g : Good} {n : Nat} {L : List Row4} (h : PlanF g n L) (hn : n ≤ 40) : SmallR L := by
  have := h.len
  refine ⟨by omega, fun r hr => ?_⟩
  have hk := h.keys r hr
  have h1 : r.a ≤ r.b := hk.ab
  have h2 : r.b < n := hk.b
  have h3 : r.c < n := hk.c
  have := h.m r hr
  exact ⟨by omega, by omega, by omega, Nat.lt_of_le_of_lt (show r.m.natAbs ≤ 100000000000 by omega) (by decide)⟩
/-! ### keys put out of order -/
/-! ### without the mixing -/
def unm (r : Row4) : K3 := (r.b, 0, r.c)
def sumU (f : K3 → Int) (L : List Row4) : Int := (L.map fun r => r.m * f (unm r)).sum
structure UnOf (L : List Row4) (es : E3) : Prop where
  nd : (es.map (·.1)).Nodup
  keys : ∀ k, k ∈ es.map (·.1) ↔ ∃ r ∈ L, unm r = k
  sum : ∀ f, sum3 f es = sumU f L
  pos : ∀ e ∈ es, 0 < e.2
  len : es.length ≤ L.length
theorem UnOf.nil : UnOf [] [] := ⟨List.nodup_nil, (fun k => ⟨(fun h => by cases h), fun ⟨r, h, _⟩ => by cases h⟩), (fun f => rfl), (fun e h => by cases h), Nat.le_refl _⟩
theorem UnOf.add {L : List Row4} {es : E3} {r : Row4} (h : UnOf L es) (hp : 0 < r.m) : UnOf (L ++ [r]) (add3 es (unm r) r.m) := by
  refine ⟨add3_nodup h.nd, fun k => ?_, fun f => ?_, fun e he => ?_, ?_⟩
  · rw [add3_key, h.keys k]
    constructor
    · rintro (⟨x, hx, e⟩ | e)
      · exact ⟨x, List.mem_append_left _ hx, e⟩
      · exact ⟨r, by simp, e.symm⟩
    · rintro ⟨x, hx, e⟩
      rcases List.mem_append.mp hx with hx | hx
      · exact .inl ⟨x, hx, e⟩
      · rw [List.mem_singleton.mp hx] at e
        exact .inr e.symm
  · rw [add3_sum f h.nd, h.sum f]
    unfold sumU
    rw [List.map_append, List.sum_append]
    simp
  · obtain ⟨k, v⟩ := e
    show 0 < v
    rcases add3_mem he with he | ⟨_, rfl⟩
    · exact h.pos _ he
    · cases hl : look3 es (unm r) with
      | none => show 0 < 0 + r.m; omega
      | some u =>
        have := h.pos _ (look3_val hl)
        dsimp only at this
        show 0 < u + r.m
        omega
  · have := add3_len es (unm r) r.m
    have := h.len
    rw [List.length_append, List.length_singleton]
    omega
theorem sum3_one (es : E3) : sum3 (fun _ => 1) es = sumM (es.map rowE) := by
  unfold sum3 sumM
  rw [List.map_map]
  congr 1
  exact List.map_congr_left fun e _ => Int.mul_one _
theorem sumU_one (L : List Row4) : sumU (fun _ => 1) L = sumM L := by
  unfold sumU sumM
  congr 1
  exact List.map_congr_left fun e _ => Int.mul_one _
theorem UnOf.tot {L : List Row4} {es : E3} (h : UnOf L es) : sumM (es.map rowE) = sumM L := by rw [← sum3_one, h.sum, sumU_one]
theorem UnOf.days {L : List Row4} {es : E3} (h : UnOf L es) (d : Nat) : d ∈ (es.map rowE).map Row4.a ↔ d ∈ L.map Row4.b := by
  rw [List.map_map]
  constructor
  · intro z
    obtain ⟨e, he, rfl⟩ := List.mem_map.mp z
    obtain ⟨r, hr, e2⟩ := (h.keys e.1).mp (List.mem_map.mpr ⟨e, he, rfl⟩)
    exact List.mem_map.mpr ⟨r, hr, by show r.b = e.1.1; rw [← e2]; rfl⟩
  · intro z
    obtain ⟨r, hr, rfl⟩ := List.mem_map.mp z
    obtain ⟨e, he, e2⟩ := List.mem_map.mp ((h.keys (unm r)).mpr ⟨r, hr, rfl⟩)
    exact List.mem_map.mpr ⟨e, he, by show e.1.1 = r.b; rw [e2]; rfl⟩
theorem UnOf.fresh {g : Good} {n : Nat} {L : List Row4} {es : E3} (h : UnOf L es) (hF : PlanF g n L) : PlanF g n ((es.map rowE).map fun r => ⟨r.a, r.a, r.c, r.m⟩) := by
  have et : sumM ((es.map rowE).map fun r => (⟨r.a, r.a, r.c, r.m⟩ : Row4)) = sumM (es.map rowE) := by
    unfold sumM
    rw [List.map_map]
    rfl
  refine ⟨fun r hr => ?_, fun r hr => ?_, by rw [et, h.tot]; exact hF.tot, by rw [List.length_map, List.length_map]; exact Nat.le_trans h.len hF.len⟩
  · obtain ⟨y, hy, rfl⟩ := List.mem_map.mp hr
    obtain ⟨e, he, rfl⟩ := List.mem_map.mp hy
    obtain ⟨x, hx, e2⟩ := (h.keys e.1).mp (List.mem_map.mpr ⟨e, he, rfl⟩)
    have hk := hF.keys x hx
    have ea : (rowE e).a = x.b := by show e.1.1 = x.b; rw [← e2]; rfl
    have ec : (rowE e).c = x.c := by show e.1.2.2 = x.c; rw [← e2]; rfl
    refine ⟨Nat.le_refl _, ?_, ?_, ?_⟩
    · show (rowE e).a < n
      rw [ea]
      exact hk.b
    · show (rowE e).c < n
      rw [ec]
      exact hk.c
    · show ∃ p, loafP g (rowE e).a (rowE e).c = some p
      rw [ea, ec]
      exact hk.p
  · obtain ⟨y, hy, rfl⟩ := List.mem_map.mp hr
    obtain ⟨e, he, rfl⟩ := List.mem_map.mp hy
    exact h.pos e he
end Bk

namespace Bk
open PySem PySem.Spec PyProof.Rows L2
/-! ### a drawn plan with doughs: its entries, while it is made -/
def ind3 (k : Nat) (key : K3) : Int := if key.2.2 = k then 1 else 0
structure BatJ (g : Good) (n i : Nat) (c : Int) (j : Nat) (es : E3) : Prop where
  nd : (es.map (·.1)).Nodup
  keys : ∀ k ∈ es.map (·.1), KeyD g n k
  pos : ∀ e ∈ es, 0 < e.2
  met : ∀ k, sum3 (ind3 k) es = if k < i then wantN g k else if k = i then c else 0
  tot : sum3 (fun _ => 1) es ≤ (i : Int) * 1000000000 + c
  len : es.length ≤ 2 * i + j
theorem BatJ.nil (g : Good) (n : Nat) : BatJ g n 0 0 0 [] := by
  refine ⟨List.nodup_nil, (fun k h => by cases h), (fun e h => by cases h), fun k => ?_, by show (0 : Int) ≤ _; omega, by simp⟩
  show (0 : Int) = _
  split
  · omega
  · split <;> rfl
theorem BatJ.add {g : Good} {n i j : Nat} {c m : Int} {es : E3} {key : K3} (h : BatJ g n i c j es) (hk : KeyD g n key) (hi : key.2.2 = i) (hm : 0 < m) : BatJ g n i (c + m) (j + 1) (add3 es key m) := by
  refine ⟨add3_nodup h.nd, fun k hk2 => ?_, fun e he => ?_, fun k => ?_, ?_, ?_⟩
  · rcases add3_key.mp hk2 with z | z
    · exact h.keys k z
    · rw [z]
      exact hk
  · obtain ⟨k, v⟩ := e
    show 0 < v
    rcases add3_mem he with he | ⟨_, rfl⟩
    · exact h.pos _ he
    · cases hl : look3 es key with
      | none => show 0 < 0 + m; omega
      | some u =>
        have := h.pos _ (look3_val hl)
        dsimp only at this
        show 0 < u + m
        omega
  · rw [add3_sum _ h.nd, h.met k]
    unfold ind3
    rw [hi]
    by_cases h1 : k < i
    · rw [if_pos h1, if_pos h1, if_neg (by omega)]
      omega
    · rw [if_neg h1, if_neg h1]
      by_cases h2 : k = i
      · rw [if_pos h2, if_pos h2, if_pos h2.symm]
        omega
      · rw [if_neg h2, if_neg h2, if_neg (fun z => h2 z.symm)]
        omega
  · rw [add3_sum _ h.nd]
    have := h.tot
    omega
  · have := add3_len es key m
    have := h.len
    omega
theorem BatJ.skip {g : Good} {n i j : Nat} {c : Int} {es : E3} (h : BatJ g n i c j es) : BatJ g n i c (j + 1) es := ⟨h.nd, h.keys, h.pos, h.met, h.tot, by have := h.len; omega⟩
theorem BatJ.next {g : Good} {n i : Nat} {es : E3} (h : BatJ g n i (wantN g i) 2 es) (hw : wantN g i ≤ 1000000000) : BatJ g n (i + 1) 0 0 es := by
  refine ⟨h.nd, h.keys, h.pos, fun k => ?_, ?_, by have := h.len; omega⟩
  · rw [h.met k]
    by_cases h1 : k < i
    · rw [if_pos h1, if_pos (by omega)]
    · rw [if_neg h1]
      by_cases h2 : k = i
      · rw [if_pos h2, if_pos (by omega), h2]
      · rw [if_neg h2, if_neg (by omega)]
        split <;> rfl
  · have := h.tot
    omega
/-- a drawn plan with doughs -/
structure Batch (g : Good) (n : Nat) (es : E3) : Prop where
  nd : (es.map (·.1)).Nodup
  keys : ∀ k ∈ es.map (·.1), KeyD g n k
  pos : ∀ e ∈ es, 0 < e.2
  met : ∀ k, k < n → sum3 (ind3 k) es = wantN g k
  tot : sum3 (fun _ => 1) es ≤ (n : Int) * 1000000000
  len : es.length ≤ 2 * n
theorem BatJ.done {g : Good} {n : Nat} {es fs : E3} (h : BatJ g n n 0 0 es) (p : fs.Perm es) : Batch g n fs := by
  refine ⟨(p.map _).nodup_iff.mpr h.nd, fun k hk => h.keys k ((p.map _).mem_iff.mp hk), fun e he => h.pos e (p.mem_iff.mp he), fun k hk => ?_, ?_, by rw [p.length_eq]; have := h.len; omega⟩
  · rw [sum3_perm p, h.met k, if_pos hk]
  · rw [sum3_perm p]
    have := h.tot
    omega
theorem Batch.plan {g : Good} {n : Nat} {es : E3} (h : Batch g n es) (hn : n ≤ 30) : PlanF g n (es.map rowE) := by
  refine ⟨fun r hr => ?_, fun r hr => ?_, ?_, ?_⟩
  · obtain ⟨e, he, rfl⟩ := List.mem_map.mp hr
    exact h.keys _ (List.mem_map.mpr ⟨e, he, rfl⟩)
  · obtain ⟨e, he, rfl⟩ := List.mem_map.mp hr
    exact h.pos e he
  · rw [← sum3_one]
    have := h.tot
    omega
  · rw [List.length_map]
    have := h.len
    omega
end Bk

namespace Bk
open PySem PySem.Spec PyProof.Rows L2
/-! ### the days on which loaves for a day can be baked -/
def thereG (g : Good) (k n : Nat) : List Int := ((List.range n).filter fun j => (loafP g j k).isSome).map fun j => ((j : Nat) : Int)
/-- a heap without one place -/
def without (D : Addr) (H : Hp) : Hp := fun b => if b = D then none else H b
theorem nums_of_day {d : Day} (h : dayB (dayD d) = true) : (0 ≤ d.want ∧ d.want ≤ 1000000000) ∧ (0 ≤ d.loaf ∧ d.loaf ≤ 1000000000) ∧ (0 ≤ d.keep ∧ d.keep ≤ 1000000000) ∧ ∀ z, d.fine = some z → 0 ≤ z ∧ z ≤ 1000000000 := by
  simp only [dayD, dayB, Bool.and_eq_true] at h
  obtain ⟨⟨⟨n1, n2⟩, n3⟩, n4⟩ := h
  simp only [numD, Bool.and_eq_true, decide_eq_true_eq] at n1 n2 n3
  refine ⟨n1, n2, n3, fun z e => ?_⟩
  rw [e] at n4
  simp only [optD, noneB, Bool.false_or, numD, Bool.and_eq_true, decide_eq_true_eq] at n4
  exact n4
end Bk

namespace Bk
open PySem PySem.Spec PyProof.Rows L2
/-! ### a bakery's text -/
theorem pe_globS {X : Cx} {x y : Str} {t : Tok} {pos : Pos} (hg : Gl X x) (hm : X.mg x = some (.str y t)) (hd : (x == ("__debug__" : Str)) = false := by decide) : PE X (.Name x pos) (tC (.str y)) := pe_glob hg hm ⟨_, rfl⟩ hd
/-- a list, or a tuple: walked either way -/
def iLT (K : PySem.W.Frag) (te : TE) : TI := fun σ H R => iList K te σ H R ∨ iTup K te σ H R
def rJoin (K : PySem.W.Frag) : V → List V → Hp → VK → Prop := fun x xs H Q => ∃ a p, ∃ ys : List Str, x = .str a ∧ xs = [.ref p] ∧ (SqL K H p (ys.map V.str) ∨ SqT K H p (ys.map V.str)) ∧ (ys.map (·.length)).sum + ys.length * a.length ≤ 16777216 ∧ Q (.str (Txt.join a ys)) H
def wordO : Option Int → Str
  | none => "-"
  | some i => toString i
def dayO (d : Day) : List (Option Int) := [some d.want, some d.loaf, some d.keep, d.fine]
def rowO (l : List (Option Int)) : Str := Txt.join " " (l.map wordO)
def goodRows (g : Good) : List Str := ("good " ++ wordO g.life) :: g.days.map fun d => rowO (dayO d)
def bakRows (b : Bak) : List Str := ("oven " ++ wordO b.bound) :: ("lights " ++ rowO (b.lights.map some)) :: (b.goods.map goodRows).flatten
def bakText (b : Bak) : Str := Txt.join "\n" (bakRows b)
def SmO (o : Option Int) : Prop := ∀ i, o = some i → i.natAbs < 10 ^ 12
end Bk

namespace Bk
open PySem PySem.Spec PyProof.Rows L2
/-! ### texts taken apart -/
/-- a number that a word can tell, or None -/
def WO (o : Option Int) : Prop := ∀ i, o = some i → 0 ≤ i ∧ i < 10000000000
theorem tl_dash : TL.tl ("-" : Str) = [45] := by decide
def tlW : Option Int → List Nat
  | none => [45]
  | some i => TL.numL i.toNat
theorem tl_some {i : Int} (h : 0 ≤ i) : TL.tl (toString i : Str) = TL.numL i.toNat := by
  obtain ⟨n, rfl⟩ : ∃ n : Nat, i = (n : Int) := ⟨i.toNat, by omega⟩
  exact TL.tl_num n
theorem tl_word {o : Option Int} (h : WO o) : TL.tl (wordO o) = tlW o := by
  cases o with
  | none => exact tl_dash
  | some i => exact tl_some (h i rfl).1
theorem word_free {o : Option Int} (h : WO o) {s : Nat} (hs : s < 45) : s ∉ TL.tl (wordO o) := by
  rw [tl_word h]
  cases o with
  | none =>
    intro z
    have : s = 45 := List.mem_singleton.mp z
    omega
  | some i => exact TL.numL_free (.inl (by omega))
theorem split_nl {parts : List Str} (hne : parts ≠ []) (hp : ∀ p ∈ parts, 10 ∉ TL.tl p) : Txt.split (Txt.join "\n" parts) "\n" = parts :=
  TL.split_join (y := "\n") (s := 10) (S := []) (by decide) (by decide +kernel) hne hp
/-- rows hold no end of a row -/
theorem joinL_mem {S : List Nat} {x : Nat} : ∀ {ps : List (List Nat)}, x ∈ TL.joinL S ps → x ∈ S ∨ ∃ p ∈ ps, x ∈ p
  | [], h => nomatch h
  | [p], h => .inr ⟨p, List.mem_cons_self, h⟩
  | p :: q :: r, h => by
    have h : x ∈ p ++ (S ++ TL.joinL S (q :: r)) := h
    rcases List.mem_append.mp h with h | h
    · exact .inr ⟨p, List.mem_cons_self, h⟩
    rcases List.mem_append.mp h with h | h
    · exact .inl h
    · rcases joinL_mem (ps := q :: r) h with h | ⟨y, hy, h⟩
      · exact .inl h
      · exact .inr ⟨y, List.mem_cons_of_mem _ hy, h⟩
theorem row_free {l : List (Option Int)} (h : ∀ o ∈ l, WO o) : 10 ∉ TL.tl (rowO l) := by
  unfold rowO
  rw [TL.join_eq, TL.tl_join]
  intro z
  rcases joinL_mem z with z | ⟨p, hp, z⟩
  · revert z
    decide
  · obtain ⟨q, hq, rfl⟩ := List.mem_map.mp hp
    obtain ⟨o, ho, rfl⟩ := List.mem_map.mp hq
    exact word_free (h o ho) (by decide) z
theorem app_free {a b : Str} (h1 : 10 ∉ TL.tl a) (h2 : 10 ∉ TL.tl b) : 10 ∉ TL.tl (a ++ b) := by
  rw [TL.tl_append]
  intro z
  rcases List.mem_append.mp z with z | z
  · exact h1 z
  · exact h2 z
def rIntS : List V → Hp → VK → Prop := fun xs H Q => ∃ a n, xs = [.str a] ∧ PySem.intText? a = some n ∧ a.length ≤ 640 ∧ Q (.int n) H
theorem rIntS_r {a : Str} {H : Hp} {Q : VK} : rIntS [.str a] H Q = ∃ n, PySem.intText? a = some n ∧ a.length ≤ 640 ∧ Q (.int n) H := propext ⟨fun ⟨_, n, e, h⟩ => by cases e; exact ⟨n, h⟩, fun ⟨n, h⟩ => ⟨a, n, rfl, h⟩⟩
def rLenS : List V → Hp → VK → Prop := fun xs H Q => ∃ z, xs = [.str z] ∧ z.length ≤ sizeLine ∧ Q (.int z.length) H
theorem rLenS_r {z : Str} {H : Hp} {Q : VK} : rLenS [.str z] H Q = (z.length ≤ sizeLine ∧ Q (.int z.length) H) := propext ⟨fun ⟨_, e, h⟩ => by cases e; exact h, fun h => ⟨z, rfl, h⟩⟩
theorem rIxS_r {z : Str} {i : Int} {H : Hp} {Q : VK} : rIxS (.str z) (.int i) H Q = ∃ c, z.length ≤ sizeLine ∧ atI z.cps.toList i = some c ∧ Q (.str ⟨#[c]⟩) H := propext ⟨fun ⟨_, _, c, e1, e2, h⟩ => by cases e1; cases e2; exact ⟨c, h⟩, fun ⟨c, h⟩ => ⟨z, i, c, rfl, rfl, h⟩⟩
def rInS : R2 := fun x y H Q => ∃ (c : Nat) (z : Str), x = .str ⟨#[c]⟩ ∧ y = .str z ∧ Q (.bl (decide (c ∈ z.cps.toList))) H
theorem rInS_r {c : Nat} {z : Str} {H : Hp} {Q : VK} : rInS (.str ⟨#[c]⟩) (.str z) H Q = Q (.bl (decide (c ∈ z.cps.toList))) H := propext ⟨fun ⟨_, _, e1, e2, h⟩ => by cases e1; cases e2; exact h, fun h => ⟨c, z, rfl, rfl, h⟩⟩
def rSplit : V → List V → Hp → VK → Prop := fun x xs H Q => ∃ a b, x = .str a ∧ xs = [.str b] ∧ (b.length == 0) = false ∧ a.length + 2 ≤ sizeLine ∧ rNewStrs (Txt.split a b) H Q
theorem rSplit_r {a b : Str} {H : Hp} {Q : VK} : rSplit (.str a) [.str b] H Q = ((b.length == 0) = false ∧ a.length + 2 ≤ sizeLine ∧ rNewStrs (Txt.split a b) H Q) := propext ⟨fun ⟨_, _, e1, e2, h⟩ => by cases e1; cases e2; exact h, fun h => ⟨a, b, rfl, rfl, h⟩⟩
theorem iStr_eq {te : TE} {σ : L2.St} {H : Hp} {R : It → Hp → Prop} : iStr te σ H R = te σ H fun v H1 => ∃ x, v = .str x ∧ R (Its x) H1 := rfl
structure WB (b : Bak) : Prop where
  bd : WO b.bound
  li : ∀ z ∈ b.lights, WO (some z)
  go : ∀ g ∈ b.goods, WO g.life ∧ ∀ d ∈ g.days, ∀ o ∈ dayO d, WO o
theorem WB.rows {b : Bak} (h : WB b) : ∀ p ∈ bakRows b, 10 ∉ TL.tl p := by
  intro p hp
  unfold bakRows at hp
  rcases List.mem_cons.mp hp with rfl | hp
  · exact app_free (by decide) (word_free h.bd (by decide))
  rcases List.mem_cons.mp hp with rfl | hp
  · exact app_free (by decide) (row_free fun o ho => by
      obtain ⟨z, hz, rfl⟩ := List.mem_map.mp ho
      exact h.li z hz)
  obtain ⟨rs, hrs, hp⟩ := List.mem_flatten.mp hp
  obtain ⟨g, hg, rfl⟩ := List.mem_map.mp hrs
  obtain ⟨k1, k2⟩ := h.go g hg
  unfold goodRows at hp
  rcases List.mem_cons.mp hp with rfl | hp
  · exact app_free (by decide) (word_free k1 (by decide))
  · obtain ⟨d, hd, rfl⟩ := List.mem_map.mp hp
    exact row_free (k2 d hd)
theorem WB.split {b : Bak} (h : WB b) : Txt.split (bakText b) "\n" = bakRows b := split_nl (List.cons_ne_nil _ _) h.rows
theorem WB.of {b : Bak} (hb : bakB (bakD b) = true) : WB b := by
  obtain ⟨_, h1, h2, _, h3⟩ := bak_parts hb
  refine ⟨fun i e => ?_, fun z hz i e => ?_, fun g hg => ⟨fun i e => ?_, fun d hd o ho i e => ?_⟩⟩
  · rw [e] at h2
    simp only [optD, boundB, numD, Bool.and_eq_true, decide_eq_true_eq] at h2
    omega
  · have e : z = i := Option.some.inj e
    have := h1 z hz
    simp only [numD, Bool.and_eq_true, decide_eq_true_eq] at this
    omega
  · have := (h3 g hg).2.1
    rw [e] at this
    simp only [optD, lifeB, Bool.and_eq_true, decide_eq_true_eq] at this
    omega
  · obtain ⟨n1, n2, n3, n4⟩ := nums_of_day ((h3 g hg).2.2 d hd)
    subst e
    simp only [dayO, List.mem_cons, List.not_mem_nil, or_false, Option.some.injEq] at ho
    rcases ho with rfl | rfl | rfl | ho
    · omega
    · omega
    · omega
    · have := n4 _ ho.symm
      omega
/-! ### words that are written -/
/-! ### the rows of a bakery by their places -/
theorem WO.sm {o : Option Int} (h : WO o) : SmO o := fun i e => by
  have := h i e
  exact Nat.lt_trans (show i.natAbs < 10000000000 by omega) (by decide)
end Bk

namespace Bk
open PySem PySem.Spec PyProof.Rows L2
/-! ### a bakery whose lists are the law's own, to be changed in place -/
/-- the tuples alone -/
def tupsOf (H : Hp) : Hp := fun b => match H b with
  | some (.tup xs) => some (.tup xs)
  | _ => none
theorem tupsOf_at {H : Hp} {b : Addr} {xs : List V} (h : H b = some (.tup xs)) : tupsOf H b = some (.tup xs) := by
  unfold tupsOf
  rw [h]
theorem tupsOf_is {H : Hp} {b : Addr} {o : HO} (h : tupsOf H b = some o) : H b = some o ∧ ∃ xs, o = .tup xs := by
  unfold tupsOf at h
  split at h
  · rename_i xs e
    cases h
    exact ⟨e, xs, rfl⟩
  · cases h
theorem tupsOf_same (H : Hp) : Same (tupsOf H) H := fun b o e => (tupsOf_is e).1
theorem tupsOf_mono {H H' : Hp} (s : Same H H') : Same (tupsOf H) (tupsOf H') := fun b o e => by
  obtain ⟨e1, xs, rfl⟩ := tupsOf_is e
  exact tupsOf_at (s _ _ e1)
/-- a change of what is no tuple leaves them -/
theorem tupsOf_upd {H : Hp} {a : Addr} {ys : List V} {o : HO} (h : H a = some (.lst ys)) : Same (tupsOf H) (tupsOf (upd H a o)) := fun b p e => by
  obtain ⟨e1, xs, rfl⟩ := tupsOf_is e
  refine tupsOf_at ?_
  rw [upd_ne]
  · exact e1
  · intro z
    rw [z, h] at e1
    cases e1
/-- a good that is made of an own tuple, an own list of days, and tuples -/
structure OwnG (H : Hp) (p : Addr × Addr) (g : Good) : Prop where
  tup : H p.1 = some (.tup [.ref p.2, optV g.life])
  lst : ∃ xs, H p.2 = some (.lst xs) ∧ TkAll (tupsOf H) xs (g.days.map dayD)
theorem OwnG.tk {H : Hp} {p : Addr × Addr} {g : Good} (h : OwnG H p g) : Tk H (.ref p.1) (goodD g) := by
  obtain ⟨xs, h1, h2⟩ := h.lst
  exact .tup h.tup (.cons (.lst h1 (h2.same (tupsOf_same _))) (.cons (Tk.optV _) .nil))
theorem OwnG.same {H H' : Hp} {p : Addr × Addr} {g : Good} (s : Same H H') (h : OwnG H p g) : OwnG H' p g := by
  obtain ⟨xs, h1, h2⟩ := h.lst
  exact ⟨s _ _ h.tup, xs, s _ _ h1, h2.same (tupsOf_mono s)⟩
inductive OwnGs (H : Hp) : List (Addr × Addr) → List Good → Prop
  | nil : OwnGs H [] []
  | cons {p : Addr × Addr} {g : Good} {ps : List (Addr × Addr)} {gs : List Good} : OwnG H p g → OwnGs H ps gs → OwnGs H (p :: ps) (g :: gs)
theorem OwnGs.same {H H' : Hp} (s : Same H H') : ∀ {ps : List (Addr × Addr)} {gs : List Good}, OwnGs H ps gs → OwnGs H' ps gs
  | _, _, .nil => .nil
  | _, _, .cons h t => .cons (h.same s) (OwnGs.same s t)
theorem OwnGs.tk {H : Hp} : ∀ {ps : List (Addr × Addr)} {gs : List Good}, OwnGs H ps gs → TkAll H (ps.map fun p => V.ref p.1) (gs.map goodD)
  | _, _, .nil => .nil
  | _, _, .cons h t => .cons h.tk (OwnGs.tk t)
theorem OwnGs.length {H : Hp} : ∀ {ps : List (Addr × Addr)} {gs : List Good}, OwnGs H ps gs → ps.length = gs.length
  | _, _, .nil => rfl
  | _, _, .cons _ t => by rw [List.length_cons, List.length_cons, OwnGs.length t]
theorem OwnGs.get {H : Hp} : ∀ {ps : List (Addr × Addr)} {gs : List Good} {i : Nat} {g : Good}, OwnGs H ps gs → gs[i]? = some g → ∃ p, ps[i]? = some p ∧ OwnG H p g
  | _, _, _, _, .nil, e => by simp at e
  | _, _, 0, _, .cons h _, e => by
    rw [List.getElem?_cons_zero] at e
    cases e
    exact ⟨_, List.getElem?_cons_zero .., h⟩
  | _, _, i + 1, _, .cons _ t, e => by
    rw [List.getElem?_cons_succ] at e
    obtain ⟨p, h1, h2⟩ := OwnGs.get t e
    exact ⟨p, by rw [List.getElem?_cons_succ]; exact h1, h2⟩
/-- lights, and one or two goods, whose lists are apart -/
structure OwnB (H : Hp) (L G : Addr) (ps : List (Addr × Addr)) (ls : List Int) (gs : List Good) : Prop where
  lights : H L = some (.lst (ls.map V.int))
  list : H G = some (.lst (ps.map fun p => V.ref p.1))
  goods : OwnGs H ps gs
  apart : (ps.map (·.2)).Nodup
theorem OwnB.same {H H' : Hp} {L G : Addr} {ps : List (Addr × Addr)} {ls : List Int} {gs : List Good} (s : Same H H') (h : OwnB H L G ps ls gs) : OwnB H' L G ps ls gs :=
  ⟨s _ _ h.lights, s _ _ h.list, h.goods.same s, h.apart⟩
theorem OwnB.bak {K : PySem.W.Frag} {H : Hp} {L G t : Addr} {ps : List (Addr × Addr)} {ls : List Int} {gs : List Good} {b : Option Int} (h : OwnB H L G ps ls gs) (e : H t = some (.tup [.ref L, optV b, .ref G])) : Th K H (.ref t) (bakD ⟨ls, b, gs⟩) :=
  (Tk.tup e (.cons (.lst h.lights (TkAll.ints ls)) (.cons (Tk.optV b) (.cons (.lst h.list h.goods.tk) .nil)))).th
def livesG : List (Option Int) := [none, none, some 0, some 1, some 2, some 3, some 4, some 5, some 7, some 11, some 23, some 40]
/-- what all goods keep -/
def GoodsOk (n : Nat) (gs : List Good) : Prop := ∀ g ∈ gs, g.days.length = n ∧ lifeB (optD g.life) = true ∧ ∀ d ∈ g.days, dayB (dayD d) = true
end Bk

namespace Bk
open PySem PySem.Spec PyProof.Rows L2
/-! ### a drawn plan of one or two goods: its entries, while it is made -/
def wantG (gs : List Good) (a k : Nat) : Int := match gs[a]? with
  | some g => wantN g k
  | none => 0
def indL (a k : Nat) (key : K3) : Int := if key.2.1 = a ∧ key.2.2 = k then 1 else 0
structure KeyL (gs : List Good) (n : Nat) (k : K3) : Prop where
  a : k.1 < n
  c : k.2.2 < n
  p : ∃ g, gs[k.2.1]? = some g ∧ ∃ p, loafP g k.1 k.2.2 = some p
structure LotJ (gs : List Good) (n a i : Nat) (c : Int) (j : Nat) (es : E3) : Prop where
  nd : (es.map (·.1)).Nodup
  keys : ∀ k ∈ es.map (·.1), KeyL gs n k
  pos : ∀ e ∈ es, 0 < e.2
  met : ∀ b k, sum3 (indL b k) es = if b < a then wantG gs b k else if b = a then (if k < i then wantG gs a k else if k = i then c else 0) else 0
  tot : sum3 (fun _ => 1) es ≤ ((a * n + i : Nat) : Int) * 1000000000 + c
  len : es.length ≤ 2 * (a * n + i) + j
theorem LotJ.nil (gs : List Good) (n : Nat) : LotJ gs n 0 0 0 0 [] := by
  refine ⟨List.nodup_nil, (fun k h => by cases h), (fun e h => by cases h), fun b k => ?_, by show (0 : Int) ≤ _; omega, by simp⟩
  show (0 : Int) = _
  split
  · omega
  · split
    · split
      · omega
      · split <;> rfl
    · rfl
theorem LotJ.add {gs : List Good} {n a i j : Nat} {c m : Int} {es : E3} {key : K3} (h : LotJ gs n a i c j es) (hk : KeyL gs n key) (ha : key.2.1 = a) (hi : key.2.2 = i) (hm : 0 < m) : LotJ gs n a i (c + m) (j + 1) (add3 es key m) := by
  refine ⟨add3_nodup h.nd, fun k hk2 => ?_, fun e he => ?_, fun b k => ?_, ?_, ?_⟩
  · rcases add3_key.mp hk2 with z | z
    · exact h.keys k z
    · rw [z]
      exact hk
  · obtain ⟨k, v⟩ := e
    show 0 < v
    rcases add3_mem he with he | ⟨_, rfl⟩
    · exact h.pos _ he
    · cases hl : look3 es key with
      | none => show 0 < 0 + m; omega
      | some u =>
        have := h.pos _ (look3_val hl)
        dsimp only at this
        show 0 < u + m
        omega
  · rw [add3_sum _ h.nd, h.met b k]
    unfold indL
    rw [ha, hi]
    by_cases h1 : b < a
    · rw [if_pos h1, if_pos h1, if_neg (by omega)]
      omega
    · rw [if_neg h1, if_neg h1]
      by_cases h2 : b = a
      · rw [if_pos h2, if_pos h2]
        by_cases h3 : k < i
        · rw [if_pos h3, if_pos h3, if_neg (by omega)]
          omega
        · rw [if_neg h3, if_neg h3]
          by_cases h4 : k = i
          · rw [if_pos h4, if_pos h4, if_pos ⟨h2.symm, h4.symm⟩]
            omega
          · rw [if_neg h4, if_neg h4, if_neg (by omega)]
            omega
      · rw [if_neg h2, if_neg h2, if_neg (by omega)]
        omega
  · rw [add3_sum _ h.nd]
    have := h.tot
    omega
  · have := add3_len es key m
    have := h.len
    omega
theorem LotJ.skip {gs : List Good} {n a i j : Nat} {c : Int} {es : E3} (h : LotJ gs n a i c j es) : LotJ gs n a i c (j + 1) es := ⟨h.nd, h.keys, h.pos, h.met, h.tot, by have := h.len; omega⟩
theorem LotJ.next {gs : List Good} {n a i : Nat} {es : E3} (h : LotJ gs n a i (wantG gs a i) 2 es) (hw : wantG gs a i ≤ 1000000000) : LotJ gs n a (i + 1) 0 0 es := by
  refine ⟨h.nd, h.keys, h.pos, fun b k => ?_, ?_, by have := h.len; omega⟩
  · rw [h.met b k]
    by_cases h1 : b < a
    · rw [if_pos h1, if_pos h1]
    · rw [if_neg h1, if_neg h1]
      by_cases h2 : b = a
      · rw [if_pos h2, if_pos h2]
        by_cases h3 : k < i
        · rw [if_pos h3, if_pos (by omega)]
        · rw [if_neg h3]
          by_cases h4 : k = i
          · rw [if_pos h4, if_pos (by omega), h4]
          · rw [if_neg h4, if_neg (by omega)]
            split <;> rfl
      · rw [if_neg h2, if_neg h2]
  · have := h.tot
    have e : ((a * n + (i + 1) : Nat) : Int) = ((a * n + i : Nat) : Int) + 1 := by omega
    rw [e]
    generalize ((a * n + i : Nat) : Int) = z at this ⊢
    omega
theorem LotJ.good {gs : List Good} {n a : Nat} {es : E3} (h : LotJ gs n a n 0 0 es) (hn : ∀ k, n ≤ k → wantG gs a k = 0) : LotJ gs n (a + 1) 0 0 0 es := by
  refine ⟨h.nd, h.keys, h.pos, fun b k => ?_, ?_, ?_⟩
  · rw [h.met b k]
    by_cases h1 : b < a
    · rw [if_pos h1, if_pos (by omega)]
    · rw [if_neg h1]
      by_cases h2 : b = a
      · subst h2
        rw [if_pos rfl, if_pos (show b < b + 1 by omega)]
        by_cases h3 : k < n
        · rw [if_pos h3]
        · rw [if_neg h3, hn k (by omega)]
          split <;> rfl
      · rw [if_neg h2, if_neg (by omega)]
        split
        · split
          · omega
          · split <;> rfl
        · rfl
  · have := h.tot
    rw [Nat.add_mul, Nat.one_mul, Nat.add_zero]
    exact this
  · have := h.len
    rw [Nat.add_mul, Nat.one_mul, Nat.add_zero]
    omega
/-- a drawn plan of one or two goods -/
structure Lots (gs : List Good) (n : Nat) (es : E3) : Prop where
  nd : (es.map (·.1)).Nodup
  keys : ∀ k ∈ es.map (·.1), KeyL gs n k
  pos : ∀ e ∈ es, 0 < e.2
  met : ∀ b k, sum3 (indL b k) es = wantG gs b k
  tot : sum3 (fun _ => 1) es ≤ ((gs.length * n : Nat) : Int) * 1000000000
  len : es.length ≤ 2 * (gs.length * n)
theorem LotJ.done {gs : List Good} {n : Nat} {es fs : E3} (h : LotJ gs n gs.length 0 0 0 es) (p : fs.Perm es) : Lots gs n fs := by
  refine ⟨(p.map _).nodup_iff.mpr h.nd, fun k hk => h.keys k ((p.map _).mem_iff.mp hk), fun e he => h.pos e (p.mem_iff.mp he), fun b k => ?_, ?_, by rw [p.length_eq]; have := h.len; omega⟩
  · rw [sum3_perm p, h.met b k]
    by_cases h1 : b < gs.length
    · rw [if_pos h1]
    · rw [if_neg h1]
      have e : wantG gs b k = 0 := by
        unfold wantG
        rw [List.getElem?_eq_none (by omega)]
      rw [e]
      split
      · split
        · omega
        · split <;> rfl
      · rfl
  · rw [sum3_perm p]
    have := h.tot
    omega
end Bk

namespace Bk
open PySem PySem.Spec PyProof.Rows L2
def dayAt (h : Row4 → Nat) (zs : List (Addr × Row4)) (i j : Nat) : Bool := match zs[j]? with | some z => decide (h z.2 = i) | none => false
/-- the lit days of a plan, below n -/
def litDs (L : List Row4) (n : Nat) : List Int := ((List.range n).filter fun d => decide (d ∈ L.map Row4.a)).map fun d => ((d : Nat) : Int)
/-- how many loaves are baked on a day -/
def loadR (L : List Row4) (d : Nat) : Int := (L.map fun r => if r.a = d then r.m else 0).sum
end Bk

namespace Bk
open PySem PySem.Spec PyProof.Rows L2
theorem ThAll.app {K : PySem.W.Frag} {H : Hp} : ∀ {vs ws : List V} {ds es : List PyData}, ThAll K H vs ds → ThAll K H ws es → ThAll K H (vs ++ ws) (ds ++ es)
  | _, _, _, _, .nil, h => h
  | _, _, _, _, .cons h t, h2 => .cons h (ThAll.app t h2)
theorem ThAll.set {K : PySem.W.Frag} {H : Hp} {x : V} {e : PyData} : ∀ {vs : List V} {ds : List PyData} {i : Nat}, ThAll K H vs ds → Th K H x e → ThAll K H (vs.set i x) (ds.set i e)
  | _, _, _, .nil, _ => .nil
  | _, _, 0, .cons _ t, h => .cons h t
  | _, _, i + 1, .cons h t, h2 => .cons h (ThAll.set t h2)
/-! ### a want less, a price put otherwise -/
def lessD (m : Int) (d : Day) : Day := ⟨d.want - m, d.loaf, d.keep, d.fine⟩
def lessG (g : Good) (k : Nat) (m : Int) : Good := match g.days[k]? with
  | some d => ⟨g.days.set k (lessD m d), g.life⟩
  | none => g
def lessB (b : Bak) (r : Row4) : Bak := match b.goods[r.b]? with
  | some g => ⟨b.lights, b.bound, b.goods.set r.b (lessG g r.c r.m)⟩
  | none => b
/-- a loaf has a price by lives and fines alone -/
theorem loafP_there {g g' : Good} (hl : g'.life = g.life) (hf : g'.days.map Day.fine = g.days.map Day.fine) {j k : Nat} (h : ∃ p, loafP g j k = some p) : ∃ p, loafP g' j k = some p := by
  obtain ⟨p, h⟩ := h
  have hlen : g'.days.length = g.days.length := by
    have := congrArg List.length hf
    rw [List.length_map, List.length_map] at this
    exact this
  have hfi : ∀ a b, finesL g'.days a b = finesL g.days a b := fun a b => by
    unfold finesL
    rw [List.map_take, List.map_drop, List.map_take, List.map_drop, hf]
  unfold loafP at h ⊢
  cases hd : g.days[j]? with
  | none => rw [hd] at h; cases h
  | some d =>
    rw [hd] at h
    have hj : j < g'.days.length := by
      rw [hlen]
      exact (List.getElem?_eq_some_iff.mp hd).1
    rw [List.getElem?_eq_getElem hj]
    dsimp only at h ⊢
    rw [hl, hfi]
    by_cases hk : k < j
    · rw [if_pos hk] at h ⊢
      obtain ⟨z, hz, _⟩ := Option.map_eq_some_iff.mp h
      rw [hz]
      exact ⟨_, rfl⟩
    · rw [if_neg hk] at h ⊢
      cases hg : g.life with
      | none => exact ⟨_, rfl⟩
      | some l =>
        rw [hg] at h
        dsimp only at h ⊢
        split at h
        · cases h
        · rename_i hz
          rw [if_neg hz]
          exact ⟨_, rfl⟩
theorem FitR.turn {b c : Bak} {n : Nat} {q : Row4} (h : FitR b n q) (k : ∀ (i : Nat) (g : Good), b.goods[i]? = some g → ∃ g' : Good, c.goods[i]? = some g' ∧ g'.life = g.life ∧ g'.days.map Day.fine = g.days.map Day.fine) : FitR c n q := by
  obtain ⟨g, hg, hp⟩ := h.p
  obtain ⟨g', h1, h2, h3⟩ := k _ g hg
  exact ⟨h.a, h.c, h.m, g', h1, loafP_there h2 h3 hp⟩
end Bk

namespace Bk
open PySem PySem.Spec PyProof.Rows L2
/-! ### xs[::-1] of a list -/
theorem pick_map {xs : List V} : ∀ {is : List Nat}, (∀ i ∈ is, i < xs.length) → is.filterMap (xs[·]?) = is.map fun i => xs.getD i .non
  | [], _ => rfl
  | i :: is, h => by
    have hi := h i List.mem_cons_self
    rw [List.filterMap_cons_some (List.getElem?_eq_getElem hi), List.map_cons, pick_map fun j hj => h j (List.mem_cons_of_mem _ hj)]
    congr 1
    rw [List.getD_eq_getElem?_getD, List.getElem?_eq_getElem hi]
    rfl
theorem stepV_rev (xs : List V) : stepV xs none none (some (-1)) = xs.reverse := by
  have er : (sliceRange ((xs.length : Int) - 1) (-1) (-1)) = (List.range xs.length).map fun (k : Nat) => ((xs.length : Int) - 1 + -1 * (k : Int)).toNat := by
    unfold sliceRange
    simp only [show ¬ ((-1 : Int) > 0) by decide, if_false]
    congr 2
    by_cases h2 : (xs.length : Int) - 1 > -1
    · rw [if_pos h2, show (- -1 : Int) = 1 by decide, Int.ediv_one]
      omega
    · rw [if_neg h2]
      omega
  unfold stepV
  rw [show sliceBounds none none (some (-1)) xs.length = ((xs.length : Int) - 1, -1, -1) from rfl]
  simp only
  rw [er, pick_map]
  · rw [List.map_map]
    apply List.ext_getElem
    · rw [List.length_map, List.length_range, List.length_reverse]
    · intro i h1 h2
      rw [List.length_map, List.length_range] at h1
      rw [List.getElem_map, List.getElem_range, List.getElem_reverse]
      show xs.getD ((xs.length : Int) - 1 + -1 * (i : Int)).toNat V.non = _
      rw [List.getD_eq_getElem?_getD, show ((xs.length : Int) - 1 + -1 * (i : Int)).toNat = xs.length - 1 - i by omega, List.getElem?_eq_getElem (by omega)]
      rfl
  · intro i hi
    obtain ⟨k, hk, rfl⟩ := List.mem_map.mp hi
    have := List.mem_range.mp hk
    omega
def rRng3 (vs : List V) (H1 : Hp) (R : It → Hp → Prop) : Prop := ∃ (i j c : Int) (n : Nat), vs = [.int i, .int j, .int c] ∧ RgC i j c n ∧ R (Itc i c n) H1
theorem iRng3_eq {ta : TA} {σ : L2.St} {H : Hp} {R : It → Hp → Prop} : iRng3 ta σ H R = ta σ H fun vs H1 => rRng3 vs H1 R := rfl
theorem rRng3_i {i j c : Int} {H : Hp} {R : It → Hp → Prop} : rRng3 [.int i, .int j, .int c] H R = ∃ n, RgC i j c n ∧ R (Itc i c n) H := propext ⟨fun ⟨_, _, _, n, e, h⟩ => by cases e; exact ⟨n, h⟩, fun ⟨n, h⟩ => ⟨i, j, c, n, rfl, h⟩⟩
/-- the last lit days never go back -/
theorem Lasts.mono {g : Good} {ls : List Int} {os : List (Option Nat)} (h : Lasts g ls os) (hg : g.days.length = ls.length) (hl : ∀ b, 0 ≤ rowF ls b) (N : NonNegW g.days) (S : Steady g) {n l : Nat} (hn : n < ls.length) (e : os[n]? = some (some l)) : ∃ l', os[n + 1]? = some (some l') ∧ l ≤ l' := by
  obtain ⟨row, hR, hat⟩ := h.row
  have hol := h.len
  have e' : os[n + 1]? = some os[n + 1] := List.getElem?_eq_getElem (by omega)
  generalize os[n + 1] = o at e'
  have h1 := hat n _ e
  have h2 := hat (n + 1) _ e'
  by_cases hw : wantN g n = 0
  · have hi := h1.of_iff (g' := g) (lights' := rowF ls) (row' := row) (j' := n + 1) fun d => (last_unw hR (by omega) hl N S hn hw d).symm
    have := h2.uniq hi
    subst this
    exact ⟨l, e', Nat.le_refl _⟩
  · obtain ⟨d, hd⟩ := last_wanted hR (by omega) hl N S hn hw
    cases o with
    | none => exact absurd hd (h2 d)
    | some l' => exact ⟨l', e', last_up hR (by omega) hl N S hn hw h1.1 h2⟩
end Bk

namespace Bk
open PySem PySem.Spec PyProof.Rows L2
/-! ### repr of data with {} in it: the table of modules is not among what is shown -/
structure NoSys (K : PySem.W.Frag) (H : Hp) : Prop where
  k : K.lookup sysModules = none
  h : ∃ o φ, H sysModules = some (.frz o (.ext φ))
theorem NoSys.same {K : PySem.W.Frag} {H H' : Hp} (n : NoSys K H) (s : Same H H') : NoSys K H' := by
  obtain ⟨o, φ, e⟩ := n.h
  exact ⟨n.k, o, φ, s _ _ e⟩
theorem NoSys.lst {K : PySem.W.Frag} {H : Hp} {a : Addr} {xs : List V} (n : NoSys K H) (h : SqL K H a xs) : a ≠ sysModules := fun z => by
  obtain ⟨o, φ, e⟩ := n.h
  subst z
  rcases h with (h | ⟨ob, h⟩) | ⟨ob, its, m, h, _⟩
  · rw [e] at h; cases h
  · rw [e] at h; cases h
  · rw [n.k] at h; cases h
theorem NoSys.dic {K : PySem.W.Frag} {H : Hp} {a : Addr} (n : NoSys K H) (h : H a = some (.dK [])) : a ≠ sysModules := fun z => by
  obtain ⟨o, φ, e⟩ := n.h
  subst z
  rw [e] at h
  cases h
section
variable {X : Cx} {pins : List (Addr × Obj)} {σ : L2.St} {H : Hp} {s : Shared}
theorem dic_reads (I : Inv X pins σ H s) {a : Addr} (h : H a = some (.dK [])) : Reads s.heap (.ref a) (.dict []) [a] := by
  obtain ⟨_, _, vs, r, o, es, ep, e1, e2, e3, _, e4, _⟩ := I.hok a _ h
  have hv : vs = [] := by
    cases r
    rfl
  subst hv
  have he : es.toList = [] := by
    cases hh : es.toList with
    | nil => rfl
    | cons x y => rw [hh] at e4; cases e4
  have := Reads.dict (as := []) (bs := []) (kvs := []) e1 e2.1 e3 (by rw [he]; exact ReadsAll.nil) (by rw [he]; exact ReadsAll.nil)
  exact this
mutual
theorem Th.reads (I : Inv X pins σ H s) (n : NoSys X.K H) : ∀ {v : V} {d : PyData} {u : Value}, Th X.K H v d → RelV v u → ∃ as, Reads s.heap u d as ∧ sysModules ∉ as
  | _, _, _, .non, r => by cases r; exact ⟨_, Reads.none, by simp⟩
  | _, _, _, .bl b, r => by cases r; exact ⟨_, Reads.bool b, by simp⟩
  | _, _, _, .int i, r => by obtain ⟨t, rfl⟩ := r; exact ⟨_, Reads.int i t, by simp⟩
  | _, _, _, .str x, r => by obtain ⟨t, rfl⟩ := r; exact ⟨_, Reads.str x t, by simp⟩
  | _, _, _, .lst h t, r => by
    cases r
    have hne := n.lst h
    obtain ⟨its, rv, ⟨o, m, ho, hc, _, hd⟩, _⟩ := I.list h
    obtain ⟨as, hr, hn⟩ := ThAll.reads I n t rv
    exact ⟨_, Reads.list ho hc hd hr, by simp only [List.mem_cons, not_or]; exact ⟨Ne.symm hne, hn⟩⟩
  | _, _, _, .tup h t, r => by
    cases r
    obtain ⟨its, rv, ⟨o, ho, hc, m, hd⟩, _⟩ := I.tuple h
    obtain ⟨as, hr, hn⟩ := ThAll.reads I n t rv
    exact ⟨_, Reads.tuple ho hc hd hr, hn⟩
  | _, _, _, .dic h, r => by
    cases r
    exact ⟨_, dic_reads I h, by simp only [List.mem_singleton]; exact Ne.symm (n.dic h)⟩
theorem ThAll.reads (I : Inv X pins σ H s) (n : NoSys X.K H) : ∀ {vs : List V} {ds : List PyData} {us : List Value}, ThAll X.K H vs ds → Vals vs us → ∃ as, ReadsAll s.heap us ds as ∧ sysModules ∉ as
  | _, _, _, .nil, r => by cases r; exact ⟨_, ReadsAll.nil, by simp⟩
  | _, _, _, .cons h t, r => by
    cases r with
    | cons r1 r2 =>
      obtain ⟨as, q1, n1⟩ := Th.reads I n h r1
      obtain ⟨bs, q2, n2⟩ := ThAll.reads I n t r2
      exact ⟨_, ReadsAll.cons q1 q2, by rw [List.mem_append]; exact fun z => z.elim n1 n2⟩
end
end
/-- what may be shown: ints of few figures, not too deep, not too long -/
structure ShowsM (d : PyData) : Prop where
  able : d.showable = true
  deep : d.depth ≤ 60
  short : d.shown.length ≤ sizeLine
def rReprM (K : PySem.W.Frag) : List V → Hp → VK → Prop := fun xs H Q => ∃ x d, xs = [x] ∧ Th K H x d ∧ NoSys K H ∧ ShowsM d ∧ Q (.str d.shown) H
theorem call_reprM {X : Cx} (hg : X.A.guards = some []) (hu : X.A.units + 64 < cLine) : CallR X (.builtin "repr") (rReprM X.K) := by
  intro pins s σ H xs us Q I r h
  obtain ⟨x, d, rfl, hx, hn, hd, q⟩ := h
  cases r with
  | cons rx rr =>
  cases rr
  rename_i u
  obtain ⟨as, rd, hs⟩ := Th.reads I hn hx rx
  have deep := hd.deep
  have fin : ∀ a : Addr, u = .ref a → wpAny (model X.prog X.w) X.A (call (.builtin "repr") [u]) (EP X pins σ Q) X.xe s := fun a e => by
    subst e
    exact repr_of_reads' rd hd.able (fun _ => hs) hg (by omega) (fun _ _ e => e) (fun h' u tk hk => ⟨.str d.shown, H, I.kept (h' := h') (t' := tk) hk, ⟨_, rfl⟩, q⟩) hd.short
  cases hx with
  | non =>
    cases (show u = Value.none from rx)
    exact PySem.P.repr_of_none ⟨.str (PyData.shown .none), H, I.tok _, ⟨_, rfl⟩, q⟩
  | bl b =>
    cases (show u = Value.bool b from rx)
    exact PySem.P.repr_of_bool ⟨.str (PyData.shown (.bool b)), H, I.tok _, ⟨_, rfl⟩, q⟩
  | int i =>
    obtain ⟨t, rfl⟩ := (show ∃ t, u = Value.int i t from rx)
    have ha : i.natAbs.log2 < 1920 := by
      have := hd.able
      simpa only [PyData.showable, decide_eq_true_eq] using this
    exact PySem.P.repr_of_int ha ⟨.str (PyData.shown (.int i)), H, I.tok _, ⟨_, rfl⟩, q⟩
  | str y =>
    obtain ⟨t, rfl⟩ := (show ∃ t, u = Value.str y t from rx)
    exact PySem.P.repr_of_str ⟨.str (PyData.shown (.str y)), H, I.tok _, ⟨_, rfl⟩, q⟩ hd.short
  | lst h t => exact fin _ rx
  | tup h t => exact fin _ rx
  | dic h => exact fin _ rx
theorem rReprM_r {K : PySem.W.Frag} {x : V} {H : Hp} {Q : VK} : rReprM K [x] H Q = ∃ d, Th K H x d ∧ NoSys K H ∧ ShowsM d ∧ Q (.str d.shown) H := propext ⟨fun ⟨y, d, e, h⟩ => by cases e; exact ⟨d, h⟩, fun ⟨d, h⟩ => ⟨x, d, rfl, h⟩⟩
/-- the law's own call, where the table of modules is held fast -/
theorem law_runM {P : Program} {w : World} {K : PySem.W.Frag} {mg mb : Str → Option Value} {k : Nat} {fa a : Addr} {fd : FuncData} {x : Str} {sp : Sp} {t : Shared} {us : List Value} {ns : List Int} {o1 : Obj} (kin : K.In t.heap) (glob : t.heap.Ns mainGlobals mg) (blt : t.heap.Ns builtinsNs mb)
    (boot : ∀ y : Str, y ≠ "__name__" → mb y = bootBuiltins y) (lim : t.heap.NoLimit) (none_g : t.gens = #[]) (hs1 : t.heap.get? sysModules = some o1) (hk1 : K.lookup sysModules = none) (at_a : t.heap.get? a = some { cls := .type "list", data := .seq us.toArray }) (hd1 : ∀ v n, o1.data ≠ .seq v n) (its0 : IntsAre us ns) (few : ns.length ≤ sizeLine) (room : Room k callerA)
    (F : ∀ base : Heap, K.In base → base.Ns mainGlobals mg → RunG P w K mg base k fa fd [x] sp) (binds : ∀ (s : Shared) (u : Value), BindsTo s fd ⟨[u], []⟩ [(x, u)])
    (law : ∀ H : Hp, SqL K H a (ns.map V.int) → NoSys K H → sp [.ref a] H (fun v _ => v = .bl true) fun _ _ _ => False) :
    codeAny (model P w) callerA (.call (.ref fa) ⟨[.ref a], []⟩) (fun r s' => r = .ok (.ret (.bool true)) ∧ OldK t.heap s'.heap ∧ s'.os = t.os ∧ AllBare s'.gens) t := by
  have rel0 := vals_ints its0
  have na1 : a ≠ sysModules := fun z => by
    rw [z, hs1] at at_a
    cases at_a
    exact hd1 _ _ rfl
  let fz : HO := .frz o1 (.ext fun _ => True)
  have ok1 : ∀ H : Hp, ObjOk P w H t.heap sysModules fz := fun H => ⟨hs1, trivial, ⟨o1, hs1⟩, fun _ _ _ _ => trivial⟩
  have go : ∀ H : Hp, (∀ b o, H b = some o → (b = a ∧ K.lookup a = none ∧ ∃ ob ys, o = .frz ob (.lst ys)) ∨ (b = sysModules ∧ o = fz)) → H sysModules = some fz → SqL K H a (ns.map V.int) → HOk P w H t.heap →
      codeAny (model P w) callerA (.call (.ref fa) ⟨[.ref a], []⟩) (fun r s' => r = .ok (.ret (.bool true)) ∧ OldK t.heap s'.heap ∧ s'.os = t.os ∧ AllBare s'.gens) t := by
    intro H only hsys seq hok
    have names : ∀ {b : Addr} {m : Str → Option Value}, b ≠ sysModules → t.heap.Ns b m → (hidT t.heap H).Ns b m := by
      rintro b m hb ⟨o, es, n, e, d, r⟩
      refine ⟨o, es, n, hidT_get e ?_, d, r⟩
      cases q : H b with
      | none => rfl
      | some z =>
        rcases only b z q with ⟨rfl, _⟩ | ⟨hh, _⟩
        · rw [at_a] at e
          cases e
          cases d
        · exact absurd hh hb
    have kin2 : K.In (hidT t.heap H) := by
      intro b o e
      refine hidT_get (kin b o e) ?_
      cases q : H b with
      | none => rfl
      | some z =>
        rcases only b z q with ⟨rfl, n, _⟩ | ⟨rfl, _⟩
        · rw [n] at e; cases e
        · rw [hk1] at e; cases e
    obtain ⟨mc, l1, l2⟩ := lim
    have n1 : mainGlobals ≠ sysModules := by decide
    have env : Env0 P w K mg (hidT t.heap H) callerA [] t H := by
      refine ⟨rfl, ⟨kin2, names n1 glob, ⟨mb, names (by decide) blt, boot⟩, ⟨mc, names (by decide) l1, l2⟩⟩, fun b o e => of_hidT e, Nat.le_of_eq (hidT_size _ _), trivial, fun b hb => ?_, hok, .of_eq none_g⟩
      cases hb
    refine codeAny_mono ((F _ kin2 (names n1 glob)).2 callerA [] t H ⟨[.ref a], []⟩ [.ref a] [.ref a] _ _ rfl room env (binds t (.ref a)) (.cons rfl .nil) (law H seq ⟨hk1, _, _, hsys⟩)) ?_
    intro r s' h
    match r, h with
    | .ok (.ret u), ⟨v, H', os, bare, un, hok', rl, q⟩ =>
      have q : v = .bl true := q
      subst q
      have rl : u = Value.bool true := rl
      subst rl
      refine ⟨rfl, OldK.of_keep fun b o e => ?_, os, bare⟩
      cases z : H b with
      | none => exact un.keep b o e z (fun m => nomatch m) (fun m => nomatch m)
      | some y =>
        have frz : ∀ ob u, y = .frz ob u → s'.heap.get? b = some o := fun ob u ey => by
          subst ey
          have k1 := (hok b _ z).1
          have k2 := (hok' b _ (un.frzs b ob _ z)).1
          rw [e] at k1
          cases k1
          exact k2
        rcases only b y z with ⟨_, _, ob, ys, ey⟩ | ⟨_, ey⟩
        · exact frz _ _ ey
        · exact frz _ _ ey
  cases hk : K.lookup a with
  | none =>
    have ea : (fun b => if b = sysModules then some fz else if b = a then some (HO.frz { cls := .type "list", data := .seq us.toArray } (.lst (ns.map V.int))) else none) a = some (HO.frz { cls := .type "list", data := .seq us.toArray } (.lst (ns.map V.int))) := by
      show (if a = sysModules then some fz else if a = a then some _ else none) = _
      rw [if_neg na1, if_pos rfl]
    refine go (fun b => if b = sysModules then some fz else if b = a then some (.frz { cls := .type "list", data := .seq us.toArray } (.lst (ns.map V.int))) else none) (fun b o e => ?_) (if_pos rfl) (.inl (.inr ⟨_, ea⟩)) (fun b o e => ?_)
    · try dsimp only at e
      by_cases h1 : b = sysModules
      · rw [if_pos h1] at e
        exact .inr ⟨h1, (Option.some.inj e).symm⟩
      · rw [if_neg h1] at e
        by_cases h2 : b = a
        · rw [if_pos h2] at e
          exact .inl ⟨h2, hk, _, _, (Option.some.inj e).symm⟩
        · rw [if_neg h2] at e
          cases e
    · try dsimp only at e
      by_cases h1 : b = sysModules
      · rw [if_pos h1] at e
        cases e
        rw [h1]
        exact ok1 _
      · rw [if_neg h1] at e
        by_cases h2 : b = a
        · rw [if_pos h2] at e
          cases e
          rw [h2]
          exact ⟨at_a, by rw [List.length_map]; exact few, us, _, rel0, at_a⟩
        · rw [if_neg h2] at e
          cases e
  | some o =>
    have e := kin a o hk
    rw [at_a] at e
    cases e
    refine go (fun b => if b = sysModules then some fz else none) (fun b o e => ?_) (if_pos rfl) (.inr ⟨_, us.toArray, _, hk, rfl, rfl, rfl, ?_, by simpa using rel0⟩) (fun b o e => ?_)
    · try dsimp only at e
      split at e
      · rename_i h1
        exact .inr ⟨h1, (Option.some.inj e).symm⟩
      · cases e
    · rw [List.size_toArray, its0.length]
      exact few
    · try dsimp only at e
      split at e
      · rename_i h1
        cases e
        rw [h1]
        exact ok1 _
      · cases e
theorem walk_M {l : PySem.W.OpenLaw} {n k : Nat} {q : Program} {loose : List Str} {XP : (Str → Option Value) → Heap → Prop} {YP : World → Heap → Prop} {d : DefRec} {K : Params → PySem.W.Frag} {sp : World → Sp} {x : Str}
    (most : l.most = some n) (line : n ≤ sizeLine) (nodef : d.params.defaults = []) (room : Room k callerA) (parts : ∀ (w : World) (h : Heap), YP w h → (K w.params).In h) (imp : importsNone q = true) (hk1 : ∀ w : World, (K w.params).lookup sysModules = none)
    (F : ∀ (w : World) (mg : Str → Option Value) (fa : Addr) (h : Heap), (K w.params).In h → h.Ns mainGlobals mg → mg d.name = some (.ref fa) → ∃ fd : FuncData, (∀ (s : Shared) (u : Value), BindsTo s fd ⟨[u], []⟩ [(x, u)]) ∧
        ∀ base : Heap, (K w.params).In base → base.Ns mainGlobals mg → RunG l.prog w (K w.params) mg base k fa fd [x] (sp w))
    (law : ∀ (w : World) (H : Hp) (a : Addr) (ns : List Int), ns.length ≤ n → SqL (K w.params) H a (ns.map V.int) → NoSys (K w.params) H → sp w [.ref a] H (fun v _ => v = .bl true) fun _ _ _ => False) :
    PySem.W.WalkO q loose XP YP l.row.toRowW d [] (fun f vs => PySem.call f vs) := by
  refine Att.attach_call most nodef fun w s0 s1 mg mb fa o pm cd doc a us ns G Y _ _ _ named obj its0 len gens => ?_
  obtain ⟨fd, hb, hF⟩ := F w mg fa _ (parts w _ Y) G.T.g named
  obtain ⟨_, ⟨o1, es, n1, e1, e2, e3⟩, _⟩ := (G.T.seer imp).mods
  exact law_runM (parts w _ Y) G.T.g G.T.b G.T.builtins G.T.nolimit gens e1 (hk1 w) obj (fun v m z => by rw [e2] at z; cases z) its0 (Nat.le_trans len line) room hF hb fun H => law w H a ns len
end Bk

namespace Bk
open PySem PySem.Spec PyProof.Rows L2
/-! ### data of a known size: what its text is long, and how deep it is -/
structure Szd (l j : Nat) (d : PyData) : Prop where
  able : d.showable = true
  len : d.shown.length ≤ l
  deep : d.depth ≤ j
theorem Szd.mono {l j l' j' : Nat} {d : PyData} (h : Szd l j d) (h1 : l ≤ l') (h2 : j ≤ j') : Szd l' j' d := ⟨h.able, Nat.le_trans h.len h1, Nat.le_trans h.deep h2⟩
theorem Szd.shows {l j : Nat} {d : PyData} (h : Szd l j d) (h1 : l ≤ 16000000) (h2 : j ≤ 60) : ShowsM d := ⟨h.able, Nat.le_trans h.deep h2, Nat.le_trans (Nat.le_trans h.len h1) (by rw [sizeLine_eq]; decide)⟩
theorem sm_none : Szd 4 0 .none := ⟨rfl, by decide, by decide⟩
theorem sm_bool (b : Bool) : Szd 5 0 (.bool b) := ⟨rfl, by cases b <;> decide, by cases b <;> decide⟩
theorem sm_int {i : Int} (h : i.natAbs < 10 ^ 60) : Szd 61 0 (.int i) := by
  refine ⟨?_, ?_, by simp only [PyData.depth, Nat.le_refl]⟩
  · simp only [PyData.showable, decide_eq_true_eq]
    exact log60 h
  · show (Str.ofString (toString i)).length ≤ 61
    rw [PySem.ofString_length]
    have := int_text_length_le10 (k := 60) (by decide) h
    omega
theorem sm_dict : Szd 2 1 (.dict []) := ⟨rfl, by decide +kernel, by simp only [PyData.depth, PyData.depthKv]; omega⟩
theorem shownAll_sum {l : Nat} : ∀ {ds : List PyData}, (∀ d ∈ ds, d.shown.length ≤ l) → ((PyData.shownAll ds).map (·.length)).sum ≤ ds.length * l
  | [], _ => by simp only [PyData.shownAll, List.map_nil, List.sum_nil, Nat.zero_le]
  | d :: r, h => by
    have h1 := h d List.mem_cons_self
    have h2 := shownAll_sum fun x hx => h x (List.mem_cons_of_mem _ hx)
    simp only [PyData.shownAll, List.map_cons, List.sum_cons, List.length_cons, Nat.add_mul, Nat.one_mul]
    omega
theorem showAll_of {ds : List PyData} (h : ∀ d ∈ ds, d.showable = true) : PyData.showableAll ds = true := by
  induction ds with
  | nil => simp only [PyData.showableAll]
  | cons x r ih => simp only [PyData.showableAll, h x List.mem_cons_self, ih fun d hd => h d (List.mem_cons_of_mem _ hd), Bool.and_self]
theorem shownAll_n : ∀ ds : List PyData, (PyData.shownAll ds).length = ds.length
  | [] => rfl
  | d :: r => by simp only [PyData.shownAll, List.length_cons, shownAll_n r]
theorem sm_len {n l : Nat} {ds : List PyData} (hn : ds.length ≤ n) : ds.length * l + 2 * ds.length + 3 ≤ n * (l + 2) + 3 := by
  have h1 : ds.length * (l + 2) ≤ n * (l + 2) := Nat.mul_le_mul_right _ hn
  rw [Nat.mul_add] at h1
  omega
theorem sm_list {n l j : Nat} {ds : List PyData} (hn : ds.length ≤ n) (h : ∀ d ∈ ds, Szd l j d) : Szd (n * (l + 2) + 3) (j + 1) (.list ds) := by
  have h1 := shownAll_sum fun d hd => (h d hd).len
  have h2 := listText_len_le (PyData.shownAll ds)
  have h3 := depthAll_le fun d hd => (h d hd).deep
  have h4 := sm_len (l := l) hn
  rw [shownAll_n] at h2
  refine ⟨by simp only [PyData.showable, showAll_of fun d hd => (h d hd).able], ?_, by simp only [PyData.depth]; omega⟩
  show (listText (PyData.shownAll ds)).length ≤ _
  omega
theorem sm_tuple {n l j : Nat} {ds : List PyData} (hn : ds.length ≤ n) (h : ∀ d ∈ ds, Szd l j d) : Szd (n * (l + 2) + 3) (j + 1) (.tuple ds) := by
  have h1 := shownAll_sum fun d hd => (h d hd).len
  have h2 := tupleText_len_le (PyData.shownAll ds)
  have h3 := depthAll_le fun d hd => (h d hd).deep
  have h4 := sm_len (l := l) hn
  rw [shownAll_n] at h2
  refine ⟨by simp only [PyData.showable, showAll_of fun d hd => (h d hd).able], ?_, by simp only [PyData.depth]; omega⟩
  show (tupleText (PyData.shownAll ds)).length ≤ _
  omega
def zAny (K : PySem.W.Frag) (l j : Nat) : Hp → V → Prop := fun H y => ∃ d, Th K H y d ∧ Szd l j d
def zTup (K : PySem.W.Frag) (n l j : Nat) : Hp → V → Prop := fun H y => ∃ ds, ds.length ≤ n ∧ Th K H y (.tuple ds) ∧ ∀ d ∈ ds, Szd l j d
def zLst (K : PySem.W.Frag) (n l j : Nat) : Hp → V → Prop := fun H y => ∃ ds, ds.length ≤ n ∧ Th K H y (.list ds) ∧ ∀ d ∈ ds, Szd l j d
def zLstE (K : PySem.W.Frag) (n l j : Nat) : Hp → V → Prop := fun H y => ∃ ds, ds.length = n ∧ Th K H y (.list ds) ∧ ∀ d ∈ ds, Szd l j d
def zAll (K : PySem.W.Frag) (n l j : Nat) : Hp → List V → Prop := fun H ys => ∃ ds, ds.length = n ∧ ThAll K H ys ds ∧ ∀ d ∈ ds, Szd l j d
def zLstT (K : PySem.W.Frag) (n l j : Nat) : Hp → V → Prop := fun H y => ∃ a xs ds, y = .ref a ∧ H a = some (.lst xs) ∧ ThAll K H xs ds ∧ ds.length ≤ n ∧ ∀ d ∈ ds, Szd l j d
section
variable {K : PySem.W.Frag} {σ : L2.St} {H : Hp} {te ta tb : TE} {n m l j l1 j1 l2 j2 : Nat}
theorem Ye.zup (h : Ye (zAny K l1 j1) te σ H) (h1 : l1 ≤ l := by decide) (h2 : j1 ≤ j := by decide) : Ye (zAny K l j) te σ H := h.weak fun _ _ ⟨d, t, s⟩ => ⟨d, t, s.mono h1 h2⟩
theorem Ye.ztup (h : Ye (zTup K n l j) te σ H) : Ye (zAny K (n * (l + 2) + 3) (j + 1)) te σ H := h.weak fun _ _ ⟨ds, e, t, s⟩ => ⟨_, t, sm_tuple e s⟩
theorem Ye.zlst (h : Ye (zLst K n l j) te σ H) : Ye (zAny K (n * (l + 2) + 3) (j + 1)) te σ H := h.weak fun _ _ ⟨ds, e, t, s⟩ => ⟨_, t, sm_list e s⟩
theorem Ye.zlstE (h : Ye (zLstE K n l j) te σ H) : Ye (zAny K (n * (l + 2) + 3) (j + 1)) te σ H := h.weak fun _ _ ⟨ds, e, t, s⟩ => ⟨_, t, sm_list (Nat.le_of_eq e) s⟩
theorem Ye.zexact (h : Ye (zLstE K n l j) te σ H) : Ye (zLst K n l j) te σ H := h.weak fun _ _ ⟨ds, e, t, s⟩ => ⟨ds, Nat.le_of_eq e, t, s⟩
theorem Ye.zint {P : Int → Prop} (h : Ye (IntD P) te σ H) (hp : ∀ i, P i → i.natAbs < 10 ^ 60) : Ye (zAny K 61 0) te σ H := h.weak fun _ _ ⟨i, e, p⟩ => ⟨.int i, by rw [e]; exact .int i, sm_int (hp i p)⟩
theorem zgrow_any : Grow (zAny K l j) := fun _ _ _ S ⟨d, t, s⟩ => ⟨d, t.same S, s⟩
theorem zgrow_tup : Grow (zTup K n l j) := fun _ _ _ S ⟨d, e, t, s⟩ => ⟨d, e, t.same S, s⟩
theorem zgrow_lst : Grow (zLst K n l j) := fun _ _ _ S ⟨d, e, t, s⟩ => ⟨d, e, t.same S, s⟩
theorem zgrow_lstE : Grow (zLstE K n l j) := fun _ _ _ S ⟨d, e, t, s⟩ => ⟨d, e, t.same S, s⟩
theorem ze_ci {z : Int} (h : z.natAbs < 10 ^ 60 := by decide) : Ye (zAny K 61 0) (tC (.int z)) σ H := fun H1 _ Q q => q H1 _ (Same.refl _) ⟨_, .int z, sm_int h⟩
theorem ze_cb {z : Bool} : Ye (zAny K 5 0) (tC (.bl z)) σ H := fun H1 _ Q q => q H1 _ (Same.refl _) ⟨_, .bl z, sm_bool z⟩
theorem ze_cn : Ye (zAny K 4 0) (tC .non) σ H := fun H1 _ Q q => q H1 _ (Same.refl _) ⟨_, .non, sm_none⟩
theorem ze_cs {z : Str} (h : (PyData.str z).shown.length ≤ 10 := by decide +kernel) : Ye (zAny K 10 0) (tC (.str z)) σ H := fun H1 _ Q q => q H1 _ (Same.refl _) ⟨_, .str z, rfl, h, by simp only [PyData.depth, Nat.le_refl]⟩
theorem ye_pw {a b : Int} (h : CPow a b) : Ye (IntD fun z => z = a ^ b.toNat) (tOp (rI CPow fun i j => .int (i ^ j.toNat)) (tC (.int a)) (tC (.int b))) σ H :=
  ye_I (ye_i (P := fun j => j = a) rfl) (ye_i (P := fun j => j = b) rfl) fun i j e1 e2 => by subst e1 e2; exact ⟨h, rfl⟩
theorem ze_dict : Ye (zAny K 2 1) tDNewK σ H := fun H1 S Q q p hp => q _ _ (same_upd hp) ⟨_, .dic upd_same, sm_dict⟩
theorem za_nil : Ya (zAll K 0 l j) tNil σ H := fun H1 _ Q q => q H1 _ (Same.refl _) ⟨[], rfl, .nil, fun _ h => nomatch h⟩
theorem za_cons {ts : TA} (he : Ye (zAny K l1 j1) te σ H) (ha : Ya (zAll K n l j) ts σ H) (h1 : l1 ≤ l := by decide) (h2 : j1 ≤ j := by decide) : Ya (zAll K (n + 1) l j) (tCons te ts) σ H :=
  fun H1 S Q q => he H1 S _ fun H2 y S2 ⟨d, t, s⟩ => ha H2 (S.trans S2) _ fun H3 ys S3 ⟨ds, e, ts, ss⟩ => q H3 _ (S2.trans S3) ⟨d :: ds, by rw [List.length_cons, e], .cons (t.same S3) ts, fun x hx => by
    rcases List.mem_cons.mp hx with rfl | hx
    · exact s.mono h1 h2
    · exact ss x hx⟩
theorem ze_lst {ts : TA} (l j : Nat) (ha : Ya (zAll K n l j) ts σ H) (hn : n ≤ 100000 := by decide) : Ye (zLstE K n l j) (tLst ts) σ H :=
  fun H1 S Q q => ha H1 S _ fun H2 ys S2 ⟨ds, e, t, s⟩ => ⟨sz100 (by rw [t.length, e]; exact hn), fun p hp => q _ _ (S2.trans (same_upd hp)) ⟨ds, e, .lst (SqL.of upd_same) (t.same (same_upd hp)), s⟩⟩
theorem ze_tup {ts : TA} (l j : Nat) (ha : Ya (zAll K n l j) ts σ H) (hn : n ≤ 100000 := by decide) : Ye (zTup K n l j) (tTup ts) σ H :=
  fun H1 S Q q => ha H1 S _ fun H2 ys S2 ⟨ds, e, t, s⟩ => ⟨sz100 (by rw [t.length, e]; exact hn), fun p hp => q _ _ (S2.trans (same_upd hp)) ⟨ds, Nat.le_of_eq e, .tup (SqT.of upd_same) (t.same (same_upd hp)), s⟩⟩
theorem ze_ixE {m : Int} (ha : Ye (zLstE K n l j) ta σ H) (hb : Ye (IntD fun i => 0 ≤ i ∧ i < m) tb σ H) (hm : m ≤ (n : Int) := by decide) : Ye (zAny K l j) (tOp (rIxL K) ta tb) σ H := by
  refine fun H1 S Q q => ha H1 S _ fun H2 y S2 ⟨ds, e, t, s⟩ => hb H2 (S.trans S2) _ fun H3 z S3 ⟨i, e2, p1, p2⟩ => ?_
  subst e2
  have t3 := t.same S3
  cases t3 with
  | @lst a xs _ hs ha =>
    have hl := ha.length
    have hj : xs[i.toNat]? = some xs[i.toNat] := List.getElem?_eq_getElem (by omega)
    obtain ⟨d, hd1, hd⟩ := ha.get hj
    exact ⟨a, xs, i, _, rfl, rfl, hs, atI_of p1 hj, q H3 _ (S2.trans S3) ⟨d, hd, s d (List.mem_of_getElem? hd1)⟩⟩
theorem ze_slT {tl th : TO} (h : Ye (zTup K n l j) te σ H) (hl : Yo tl σ H) (hh : Yo th σ H) : Ye (zTup K n l j) (tSl (rSlA K) te tl th) σ H := by
  refine fun H1 S Q q => h H1 S _ fun H2 y S2 ⟨ds, e, t, s⟩ => hl H2 (S.trans S2) _ fun H3 lo S3 => hh H3 (S.trans (S2.trans S3)) _ fun H4 hi S4 => ?_
  have S24 := S2.trans (S3.trans S4)
  have t3 := t.same (S3.trans S4)
  cases t3 with
  | @tup a xs _ hs ha =>
    refine ⟨a, xs, rfl, hs, fun _ => q _ _ S24 ⟨ds, e, .tup hs ha, s⟩, fun _ p hp => q _ _ (S24.trans (same_upd hp)) ⟨_, ?_, .tup (SqT.of upd_same) ((thAll_cut ha _ _).same (same_upd hp)), fun d hd => s d (List.mem_of_mem_drop (List.mem_of_mem_take hd))⟩⟩
    rw [List.length_take, List.length_drop]
    omega
theorem ze_slL {tl th : TO} (h : Ye (zLst K n l j) te σ H) (hl : Yo tl σ H) (hh : Yo th σ H) : Ye (zLst K n l j) (tSl (rSlL K) te tl th) σ H := by
  refine fun H1 S Q q => h H1 S _ fun H2 y S2 ⟨ds, e, t, s⟩ => hl H2 (S.trans S2) _ fun H3 lo S3 => hh H3 (S.trans (S2.trans S3)) _ fun H4 hi S4 => ?_
  have S24 := S2.trans (S3.trans S4)
  have t3 := t.same (S3.trans S4)
  cases t3 with
  | @lst a xs _ hs ha =>
    refine ⟨a, xs, rfl, hs, fun p hp => q _ _ (S24.trans (same_upd hp)) ⟨_, ?_, .lst (SqL.of upd_same) ((thAll_cut ha _ _).same (same_upd hp)), fun d hd => s d (List.mem_of_mem_drop (List.mem_of_mem_take hd))⟩⟩
    rw [List.length_take, List.length_drop]
    omega
theorem mem_app {ds es : List PyData} {l j : Nat} (s : ∀ d ∈ ds, Szd l j d) (s2 : ∀ d ∈ es, Szd l j d) : ∀ d ∈ ds ++ es, Szd l j d := fun d hd => (List.mem_append.mp hd).elim (s d) (s2 d)
theorem ze_catL (ha : Ye (zLst K n l j) ta σ H) (hb : Ye (zLst K m l j) tb σ H) (hz : n + m ≤ 100000 := by decide) : Ye (zLst K (n + m) l j) (tOp (rCatL K) ta tb) σ H := by
  refine fun H1 S Q q => ha H1 S _ fun H2 y S2 ⟨ds, e, t, s⟩ => hb H2 (S.trans S2) _ fun H3 z S3 ⟨es, e2, t2, s2⟩ => ?_
  have t3 := t.same S3
  cases t3 with
  | @lst a xs _ hs ha =>
    cases t2 with
    | @lst b ys _ hs2 ha2 =>
      refine ⟨a, b, xs, ys, rfl, rfl, hs, hs2, sz100 (by rw [ha.length, ha2.length]; omega), fun p hp => q _ _ ((S2.trans S3).trans (same_upd hp)) ⟨ds ++ es, by rw [List.length_append]; omega, .lst (SqL.of upd_same) ((thAll_app2 ha2 ha).same (same_upd hp)), mem_app s s2⟩⟩
theorem ze_catT (ha : Ye (zTup K n l j) ta σ H) (hb : Ye (zTup K m l j) tb σ H) (hz : n + m ≤ 100000 := by decide) : Ye (zTup K (n + m) l j) (tOp (rCatA K) ta tb) σ H := by
  refine fun H1 S Q q => ha H1 S _ fun H2 y S2 ⟨ds, e, t, s⟩ => hb H2 (S.trans S2) _ fun H3 z S3 ⟨es, e2, t2, s2⟩ => ?_
  have t3 := t.same S3
  cases t3 with
  | @tup a xs _ hs ha =>
    cases t2 with
    | @tup b ys _ hs2 ha2 =>
      refine ⟨a, b, xs, ys, rfl, rfl, hs, hs2, sz100 (by rw [ha.length, ha2.length]; omega), fun _ => q _ _ (S2.trans S3) ⟨es, by omega, .tup hs2 ha2, s2⟩, fun _ _ => q _ _ (S2.trans S3) ⟨ds, by omega, .tup hs ha, s⟩, fun _ _ p hp => q _ _ ((S2.trans S3).trans (same_upd hp)) ⟨ds ++ es, by rw [List.length_append]; omega, .tup (SqT.of upd_same) ((thAll_app2 ha2 ha).same (same_upd hp)), mem_app s s2⟩⟩
theorem mem_back {α : Type} {xs : List α} {x : α} (h : x ∈ backV xs) : x ∈ xs := by
  unfold backV at h
  obtain ⟨i, _, hi⟩ := List.mem_filterMap.mp h
  exact List.mem_of_getElem? hi
theorem ze_backT (h : Ye (zTup K n l j) te σ H) : Ye (zTup K n l j) (tBackT K te tNoPart tNoPart (tPart (tUn (rU fun i => .int (-i)) (tC (.int 1))))) σ H := by
  refine fun H1 S Q q => h H1 S _ fun H2 y S2 ⟨ds, e, t, s⟩ => ⟨1, rfl, _, rfl, ?_⟩
  cases t with
  | @tup a xs _ hs ha =>
    refine ⟨a, xs, rfl, hs, rfl, rfl, rfl, fun p hp => q _ _ (S2.trans (same_upd hp)) ⟨backV ds, by rw [backV_length]; exact e, .tup (SqT.of upd_same) ?_, fun d hd => s d (mem_back hd)⟩⟩
    have := thAll_pick ha ((List.range xs.length).map fun (k : Nat) => ((xs.length : Int) - 1 + (k : Int) * -1).toNat)
    unfold backV
    rw [← ha.length]
    exact this.same (same_upd hp)
theorem ze_listOf (h : Ye (zTup K n l j) te σ H) : Ye (zLst K n l j) (tCB (rListOf K) (tCons te tNil)) σ H := by
  refine fun H1 S Q q => h H1 S _ fun H2 y S2 ⟨ds, e, t, s⟩ => ?_
  cases t with
  | tup hs ha =>
    exact ⟨_, _, rfl, .inr hs, fun l hl => q _ _ (S2.trans (same_upd hl)) ⟨ds, e, .lst (SqL.of upd_same) (ha.same (same_upd hl)), s⟩⟩
theorem ze_tupOf (h : Ye (zLst K n l j) te σ H) : Ye (zTup K n l j) (tCB (rTupOf K) (tCons te tNil)) σ H := by
  refine fun H1 S Q q => h H1 S _ fun H2 y S2 ⟨ds, e, t, s⟩ => ?_
  cases t with
  | lst hs ha =>
    exact ⟨_, _, rfl, .inl ⟨hs, fun l hl => q _ _ (S2.trans (same_upd hl)) ⟨ds, e, .tup (SqT.of upd_same) (ha.same (same_upd hl)), s⟩⟩⟩
theorem ze_len (h : Ye (zLstE K n l j) te σ H) : Ye (IntD fun i => i = (n : Int)) (tCB (rLnL K) (tCons te tNil)) σ H := by
  refine fun H1 S Q q => h H1 S _ fun H2 y S2 ⟨ds, e, t, _⟩ => ?_
  cases t with
  | lst hs ha => exact ⟨_, _, rfl, hs, q H2 _ S2 ⟨_, rfl, by rw [ha.length, e]⟩⟩
theorem ze_modE {P : Int → Prop} (ha : Ye (IntD P) ta σ H) (hb : Ye (IntD fun i => i = (n : Int)) tb σ H) (hn : 0 < n) : Ye (IntD fun i => 0 ≤ i ∧ i < (n : Int)) (tOp (rI (fun _ j => 0 < j) fun i j => .int (i % j)) ta tb) σ H :=
  ye_I ha hb fun i j _ e => by subst e; exact ⟨by omega, Int.emod_nonneg _ (by omega), Int.emod_lt_of_pos _ (by omega)⟩
end
end Bk

namespace Bk
open PySem PySem.Spec PyProof.Rows L2
/-! ### data of which something is known; lists picked from; xs[::-1] of a list -/
theorem Szd.few {l j : Nat} {ds : List PyData} (h : Szd l j (.list ds)) : 2 * ds.length ≤ l := by
  have h1 := h.len
  have h2 : (listText (PyData.shownAll ds)).length ≤ l := h1
  have h3 := (textFrom_len (PyData.shownAll ds) 0 "[").1
  rw [shownAll_n] at h3
  have hX : (listText (PyData.shownAll ds)).length = (textFrom 0 "[" (PyData.shownAll ds)).length + 1 := by
    show (textFrom 0 "[" (PyData.shownAll ds) ++ "]").length = _
    rw [strLen_append]; rfl
  have h4 : ("[" : Str).length = 1 := by decide +kernel
  rw [h4] at h3
  rw [if_neg (by decide)] at h3
  omega
def pAny (K : PySem.W.Frag) (P : PyData → Prop) : Hp → V → Prop := fun H y => ∃ d, Th K H y d ∧ P d
def pAll (K : PySem.W.Frag) (P : PyData → Prop) (n : Nat) : Hp → List V → Prop := fun H ys => ∃ ds, ds.length = n ∧ ThAll K H ys ds ∧ ∀ d ∈ ds, P d
def pLstE (K : PySem.W.Frag) (P : PyData → Prop) (n : Nat) : Hp → V → Prop := fun H y => ∃ ds, ds.length = n ∧ Th K H y (.list ds) ∧ ∀ d ∈ ds, P d
section
variable {K : PySem.W.Frag} {σ : L2.St} {H : Hp} {te ta tb : TE} {n m l j : Nat} {P : PyData → Prop}
end
end Bk

namespace Bk
open PySem PySem.Spec PyProof.Rows L2
/-! ### list == [] -/
def rEqN (K : PySem.W.Frag) : R2 := fun x y H Q => ∃ (l b : Addr) (xs : List V), x = .ref l ∧ y = .ref b ∧ SqL K H l xs ∧ SqL K H b [] ∧ Q (.bl (decide (xs.length = 0))) H
/-! ### tuples of whole numbers, new; lists that begin with them -/
def iT4 (H : Hp) (y : V) : Prop := ∃ (p : Addr) (ns : List Int), y = .ref p ∧ H p = some (.tup (ns.map V.int)) ∧ ns.length = 4 ∧ ∀ n ∈ ns, n.natAbs < 10 ^ 60
def iAll (n : Nat) (_ : Hp) (ys : List V) : Prop := ∃ ns : List Int, ns.length = n ∧ ys = ns.map V.int ∧ ∀ m ∈ ns, m.natAbs < 10 ^ 60
def iTs (n : Nat) (H : Hp) (ys : List V) : Prop := ys.length = n ∧ ∀ y ∈ ys, iT4 H y
/-- a list of n things, of which the first m are new tuples of whole numbers -/
def zIT (K : PySem.W.Frag) (n m l j : Nat) (H : Hp) (y : V) : Prop := ∃ a xs ds, y = .ref a ∧ SqL K H a xs ∧ ThAll K H xs ds ∧ ds.length = n ∧ (∀ d ∈ ds, Szd l j d) ∧ ∀ (i : Nat) (z : V), i < m → xs[i]? = some z → iT4 H z
theorem iT4.same {H H' : Hp} {y : V} (h : iT4 H y) (S : Same H H') : iT4 H' y := h.elim fun p ⟨ns, e, g, r⟩ => ⟨p, ns, e, S _ _ g, r⟩
theorem szd_intsT {ns : List Int} (h : ∀ n ∈ ns, n.natAbs < 10 ^ 60) : ∀ d ∈ ns.map PyData.int, Szd 61 0 d := fun d hd => by
  obtain ⟨n, hn, rfl⟩ := List.mem_map.mp hd
  exact sm_int (h n hn)
theorem iT4.any {K : PySem.W.Frag} {H : Hp} {y : V} (h : iT4 H y) : zAny K 255 1 H y := h.elim fun p ⟨ns, e, g, e4, hb⟩ => ⟨.tuple (ns.map PyData.int), by rw [e]; exact .tup (SqT.of g) (ThAll.ints ns), sm_tuple (n := 4) (by rw [List.length_map, e4]; exact Nat.le_refl _) (szd_intsT hb)⟩
section
variable {K : PySem.W.Frag} {σ : L2.St} {H : Hp} {te ta tb : TE} {n m l j k : Nat}
variable {C : TS} {D : Ends}
end
end Bk

namespace Bk
open PySem PySem.Spec PyProof.Rows L2
/-! ### tuple == (): whatever the tuple holds -/
def rEqNT (K : PySem.W.Frag) : R2 := fun x y H Q => ∃ (l b : Addr) (xs : List V), x = .ref l ∧ y = .ref b ∧ SqT K H l xs ∧ SqT K H b [] ∧ Q (.bl (decide (xs.length = 0))) H
theorem op_eqNilT {X : Cx} (hu : X.A.units + 64 < cLine) : OpR X (compareOp .Eq) (rEqNT X.K) := fun pins s σ H x y v u Q I rx ry h => by
  obtain ⟨l, b, xs, ex, ey, hl, hb, q⟩ := h
  subst ex ey
  cases rx
  cases ry
  obtain ⟨i1, r1, p1, z1⟩ := I.tuple hl
  obtain ⟨i2, r2, p2, z2⟩ := I.tuple hb
  have e1 := r1.length
  have e2 := r2.length
  have e2 : i2 = [] := List.length_eq_zero_iff.mp e2.symm
  subst e2
  refine PySem.SeqAt.eq_tupleAt (e := fun _ => true) (show s.heap.IsTuple l i1.toArray from p1) (show s.heap.IsTuple b ([] : List Value).toArray from p2) (by omega) (fun j h1 (h2 : j < ([] : List Value).toArray.size) => absurd h2 (Nat.not_lt_zero _)) ?_
  have e3 : ((List.range (min i1.toArray.size ([] : List Value).toArray.size)).all (fun _ => true) && i1.toArray.size == ([] : List Value).toArray.size) = decide (xs.length = 0) := by
    rw [List.size_toArray, ← e1]
    cases xs <;> simp
  rw [e3]
  exact ⟨.bl _, H, I, rfl, q⟩
theorem rEqNT_r {K : PySem.W.Frag} {l b : Addr} {H : Hp} {Q : VK} : rEqNT K (.ref l) (.ref b) H Q = ∃ xs, SqT K H l xs ∧ SqT K H b [] ∧ Q (.bl (decide (xs.length = 0))) H := propext ⟨fun ⟨_, _, xs, e1, e2, h⟩ => by cases e1; cases e2; exact ⟨xs, h⟩, fun ⟨xs, h⟩ => ⟨l, b, xs, rfl, rfl, h⟩⟩
end Bk

namespace Bk
open PySem PySem.Spec PyProof.Rows L2
/-! ### a op b op c op d, as a test -/
def tChain3 (r1 r2 r3 : R2) (ta tb tc td : TE) : TT := fun σ H Q => ta σ H fun x Ha => tb σ Ha fun y Hb => r1 x y Hb fun z1 H1 => ∃ k1, z1 = .bl k1 ∧
  if k1 = true then tc σ H1 fun z Hc => r2 y z Hc fun z2 H2 => ∃ k2, z2 = .bl k2 ∧ (if k2 = true then td σ H2 fun u Hd => r3 z u Hd fun z3 H3 => ∃ k3, z3 = .bl k3 ∧ Q k3 H3 else Q false H2)
  else Q false H1
theorem pt_chain3 {X : Cx} {a b c d : Expr} {ta tb tc td : TE} {o1 o2 o3 : CmpOp} {r1 r2 r3 : R2} {pos : Pos} (h1 : OpR X (compareOp o1) r1) (h2 : OpR X (compareOp o2) r2) (h3 : OpR X (compareOp o3) r3) (ha : PE X a ta) (hb : PE X b tb) (hc : PE X c tc) (hd : PE X d td)
    (hm : lastMarks [o1, o2, o3] [b, c, d] = false := by with_unfolding_all rfl) : PT X (.Compare a [o1, o2, o3] [b, c, d] pos) (tChain3 r1 r2 r3 ta tb tc td) := by
  constructor
  intro pins s σ H Q I h
  refine isTrue_chain (thn (ha.run pins s σ H _ I h) ?_) hm
  rintro v sa ⟨x, Ha, Ia, ra, qa⟩
  refine test_link (thn (hb.run pins sa σ Ha _ Ia qa) ?_)
  rintro u sb ⟨y, Hb, Ib, rb, qb⟩
  refine thn (h1 pins sb σ Hb x y v u _ Ib ra rb qb) ?_
  rintro e1 s1 ⟨z1, H1, I1, rz, k1, ez, q1⟩
  subst ez
  cases rz
  refine wpAny_truthy_bool ?_
  by_cases hk1 : k1 = true
  · rw [if_pos hk1] at q1 ⊢
    refine test_link (thn (hc.run pins s1 σ H1 _ I1 q1) ?_)
    rintro w2 sc ⟨z, Hc, Ic, rc, qc⟩
    refine thn (h2 pins sc σ Hc y z u w2 _ Ic rb rc qc) ?_
    rintro e2 s2 ⟨z2, H2, I2, rz, k2, ez, q2⟩
    subst ez
    cases rz
    refine wpAny_truthy_bool ?_
    by_cases hk2 : k2 = true
    · rw [if_pos hk2] at q2 ⊢
      refine test_last (thn (hd.run pins s2 σ H2 _ I2 q2) ?_)
      rintro w3 sd ⟨t, Hd, Id, rd, qd⟩
      refine thn (h3 pins sd σ Hd z t w2 w3 _ Id rc rd qd) ?_
      rintro e3 s3 ⟨z3, H3, I3, rz, k3, ez, q3⟩
      subst ez
      cases rz
      exact wpAny_truthy_bool ⟨H3, I3, q3⟩
    · rw [if_neg hk2] at q2 ⊢
      exact ⟨H2, I2, q2⟩
  · rw [if_neg hk1] at q1 ⊢
    exact ⟨H1, I1, q1⟩
end Bk

namespace Bk
open PySem PySem.Spec PyProof.Rows L2
/-! ### a thing that may be a dict of one entry, {0: data} -/
inductive ThX (K : PySem.W.Frag) (H : Hp) : V → PyData → Prop
  | th {v : V} {d : PyData} : Th K H v d → ThX K H v d
  | one {a : Addr} {p : V} {e : PyData} : H a = some (.dK [(Sum.inl 0, p)]) → Th K H p e → ThX K H (.ref a) (.dict [(.int 0, e)])
theorem ThX.same {K : PySem.W.Frag} {H H' : Hp} {v : V} {d : PyData} (s : Same H H') (h : ThX K H v d) : ThX K H' v d := by
  cases h with
  | th t => exact .th (t.same s)
  | one e t => exact .one (s _ _ e) (t.same s)
theorem ThX.ty {K : PySem.W.Frag} {H : Hp} {v : V} {d : PyData} (h : ThX K H v d) : TyX K H v (.type (kindD d)) := by
  cases h with
  | th t => exact t.ty
  | one e t => exact .base (.dK e)
def rIsDX (K : PySem.W.Frag) (c : Cl) : List V → Hp → VK → Prop := fun xs H Q => ∃ x d, xs = [x, .ty c.name] ∧ ThX K H x d ∧ Q (.bl (isD c d)) H
section
variable {X : Cx} {pins : List (Addr × Obj)} {σ : L2.St} {H : Hp} {s : Shared}
theorem ThX.reads (I : Inv X pins σ H s) (n : NoSys X.K H) {v : V} {d : PyData} {u : Value} (h : ThX X.K H v d) (r : RelV v u) : ∃ as, Reads s.heap u d as ∧ sysModules ∉ as := by
  cases h with
  | th t => exact t.reads I n r
  | @one a p e h t =>
    cases r
    obtain ⟨_, hs, vs, kv, o, es, ep, e1, e2, e3, _, e4, _⟩ := I.hok a _ h
    obtain ⟨kv0, rfl, ke, kr⟩ : ∃ kv0 : Key × Value, vs = [kv0] ∧ Sum.inl 0 = kv0.1 ∧ RelV p kv0.2 := by
      cases kv with
      | cons k1 kt =>
        cases kt
        exact ⟨_, rfl, k1.1, k1.2⟩
    · skip
      obtain ⟨as, hr, hn⟩ := t.reads I n kr
      have e5 : ∃ en, es.toList = [en] ∧ (mixKind X.prog X.w).is kv0.1 en.key = true ∧ en.val = kv0.2 := by
        cases hh : es.toList with
        | nil => rw [hh] at e4; cases e4
        | cons x r =>
          rw [hh] at e4
          obtain ⟨rfl, g1, g2⟩ : r = [] ∧ (mixKind X.prog X.w).is kv0.1 x.key = true ∧ x.val = kv0.2 := by
            generalize ho : [kv0] = kvs at e4
            cases e4 with
            | cons g1 g2 g3 =>
              cases ho
              cases g3
              exact ⟨rfl, g1, g2⟩
          exact ⟨x, rfl, g1, g2⟩
      obtain ⟨en, he, hk, hv⟩ := e5
      rw [← ke] at hk
      have hk : keyIs (Sum.inl 0) en.key = true := hk
      rcases keyIs_shape hk with ⟨i, t1, q1, q2⟩ | ⟨x, t1, q1, _⟩
      · cases q1
        have rd := Reads.dict (as := []) (bs := as) (kvs := [(PyData.int 0, e)]) e1 e2.1 e3 (by rw [he]; simp only [List.map]; rw [q2]; exact ReadsAll.cons (as := []) (Reads.int 0 t1) ReadsAll.nil) (by rw [he]; simp only [List.map]; rw [hv, show as = as ++ [] by simp]; exact ReadsAll.cons hr ReadsAll.nil)
        refine ⟨_, rd, ?_⟩
        simp only [List.cons_append, List.nil_append, List.mem_cons, not_or]
        exact ⟨fun z => by rw [← z] at hs; simp at hs, hn⟩
      · cases q1
end
/-- a list whose last item may be such a dict -/
inductive ThLX (K : PySem.W.Frag) (H : Hp) : V → PyData → Prop
  | mk {a : Addr} {xs : List V} {ds : List PyData} {b : V} {d : PyData} : SqL K H a (xs ++ [b]) → ThAll K H xs ds → ThX K H b d → ThLX K H (.ref a) (.list (ds ++ [d]))
def rReprX (K : PySem.W.Frag) : List V → Hp → VK → Prop := fun xs H Q => ∃ x d, xs = [x] ∧ ThLX K H x d ∧ NoSys K H ∧ ShowsM d ∧ Q (.str d.shown) H
end Bk

namespace Bk
open PySem PySem.Spec PyProof.Rows L2
/-! ### a plan, bent: lists of its rows, and a dict of one entry -/
/-- what a bent plan may be -/
structure Bent (d : PyData) : Prop where
  sz : Szd 1000000 8 d
  few : ∀ ds, d = .list ds → ds.length ≤ 500
def pX (K : PySem.W.Frag) (H : Hp) (y : V) : Prop := ∃ d, ThX K H y d ∧ Bent d
def xAll (K : PySem.W.Frag) (n : Nat) (H : Hp) (ys : List V) : Prop := ys.length = n ∧ ∀ y ∈ ys, pX K H y
def xLst (K : PySem.W.Frag) (n : Nat) (H : Hp) (y : V) : Prop := ∃ a xs, y = .ref a ∧ SqL K H a xs ∧ xs.length = n ∧ ∀ x ∈ xs, pX K H x
/-- this list of rows, as it was made -/
def IsPl (p : Addr) (zs : List (Addr × Row4)) (H : Hp) (y : V) : Prop := y = .ref p ∧ H p = some (.lst (zs.map fun z => V.ref z.1)) ∧ ∀ z ∈ zs, H z.1 = some (.tup [.int (z.2.a : Int), .int (z.2.b : Int), .int (z.2.c : Int), .int z.2.m])
def IsRw (z : Addr × Row4) (H : Hp) (y : V) : Prop := y = .ref z.1 ∧ H z.1 = some (.tup [.int (z.2.a : Int), .int (z.2.b : Int), .int (z.2.c : Int), .int z.2.m])
/-- a list of tuples of four whole numbers, all tracked -/
def iLs (K : PySem.W.Frag) (n : Nat) (H : Hp) (y : V) : Prop := ∃ (a : Addr) (L : List (Addr × List Int)), y = .ref a ∧ SqL K H a (L.map fun q => V.ref q.1) ∧ L.length ≤ n ∧ ∀ q ∈ L, H q.1 = some (.tup (q.2.map V.int)) ∧ q.2.length = 4 ∧ ∀ m ∈ q.2, m.natAbs < 10 ^ 60
def RowS (r : Row4) : Prop := r.a < 1000 ∧ r.b < 1000 ∧ r.c < 1000 ∧ r.m.natAbs < 10 ^ 12
def intsR (r : Row4) : List Int := [(r.a : Int), (r.b : Int), (r.c : Int), r.m]
theorem RowS.ints {r : Row4} (h : RowS r) : ∀ m ∈ intsR r, m.natAbs < 10 ^ 60 := fun m hm => by
  obtain ⟨h1, h2, h3, h4⟩ := h
  have s : ∀ n : Nat, n < 1000 → ((n : Nat) : Int).natAbs < 10 ^ 60 := fun n h => Nat.lt_of_lt_of_le (show ((n : Nat) : Int).natAbs < 1000 by omega) (by decide)
  simp only [intsR, List.mem_cons, List.not_mem_nil, or_false] at hm
  rcases hm with rfl | rfl | rfl | rfl
  · exact s _ h1
  · exact s _ h2
  · exact s _ h3
  · exact Nat.lt_of_lt_of_le h4 (by decide)
section
variable {K : PySem.W.Frag} {σ : L2.St} {H : Hp} {te ta tb : TE} {n m l j : Nat} {p : Addr} {zs : List (Addr × Row4)} {z : Addr × Row4}
theorem pX.same {H H' : Hp} {y : V} (h : pX K H y) (S : Same H H') : pX K H' y := h.elim fun d ⟨t, b⟩ => ⟨d, t.same S, b⟩
/-- tests whose answer is known -/
def Yq (b : Bool) (tt : TT) (σ : L2.St) (H : Hp) : Prop := ∀ H1, Same H H1 → ∀ Q : Bool → Hp → Prop, (∀ H2, Same H1 H2 → Q b H2) → tt σ H1 Q
theorem yq_eq {n m : Int} (ha : Ye (IntD fun i => i = n) ta σ H) (hb : Ye (IntD fun i => i = m) tb σ H) : Yq (decide (n = m)) (tTest (tOp rEq ta tb)) σ H :=
  fun H1 S Q q => ha H1 S _ fun H2 y S2 ⟨i, e, e1⟩ => hb H2 (S.trans S2) _ fun H3 z S3 ⟨j, e2, e3⟩ => ⟨by rw [e, e2]; rfl, _, (by rw [e, e2, e1, e3]; congr 1; simp only [V.int.injEq]), q H3 (S2.trans S3)⟩
theorem s_ifQ {A C : TS} {D : Ends} {tt : TT} {b : Bool} (h : Yq b tt σ H) (k1 : b = true → ∀ H2, Same H H2 → A { D with nx := C D } σ H2) (k2 : b = false → ∀ H2, Same H H2 → C D σ H2) : tSeq (tIfS tt A tNext) C D σ H := h H (Same.refl _) _ fun H2 S => by
  cases b with
  | true => exact k1 rfl H2 S
  | false => exact k2 rfl H2 S
end
end Bk

namespace Bk
open PySem PySem.Spec PyProof.Rows L2
/-! ### lists of whole numbers of known size, and tests whose answer is known -/
/-- a list of so many whole numbers, none larger than B -/
def RunL (K : PySem.W.Frag) (B n : Nat) : Hp → V → Prop := fun H y => ∃ (a : Addr) (xs : List Int), y = .ref a ∧ SqL K H a (xs.map V.int) ∧ xs.length = n ∧ ∀ z ∈ xs, z.natAbs ≤ B
section
variable {K : PySem.W.Frag} {σ : L2.St} {H : Hp} {te ta tb : TE} {n m l j B : Nat}
theorem RunL.z {y : V} (h : RunL K B n H y) (hB : B < 10 ^ 60) : zLstE K n 61 0 H y := by
  obtain ⟨a, xs, rfl, hs, hl, hb⟩ := h
  exact ⟨xs.map PyData.int, by rw [List.length_map, hl], .lst hs (.ints xs), fun d hd => by
    obtain ⟨z, hz, rfl⟩ := List.mem_map.mp hd
    exact sm_int (Nat.lt_of_le_of_lt (hb z hz) hB)⟩
theorem yq_cmp {g : Int → Int → Bool} {a b : Int} (ha : Ye (IntD fun i => i = a) ta σ H) (hb : Ye (IntD fun i => i = b) tb σ H) : Yq (g a b) (tTest (tOp (rI0 fun i j => .bl (g i j)) ta tb)) σ H :=
  fun H1 S Q q => ha H1 S _ fun H2 y S2 ⟨i, e, p⟩ => hb H2 (S.trans S2) _ fun H3 z S3 ⟨k, e2, p2⟩ => by
    subst e p e2 p2
    exact ⟨_, _, rfl, rfl, _, rfl, q _ (S2.trans S3)⟩
end
end Bk

namespace Bk
open PySem PySem.Spec PyProof.Rows L2
/-! ### xs.insert(i, y), xs.pop(i), x not in a list of data -/
def rInsL (x : V) (vs : List V) (H : Hp) (Q : VK) : Prop := ∃ (l : Addr) (xs : List V) (i : Int) (y : V), x = .ref l ∧ vs = [.int i, y] ∧ H l = some (.lst xs) ∧ xs.length < sizeLine ∧ 0 ≤ i ∧ i < 2 ^ 63 ∧ Q .non (upd H l (.lst (xs.take i.toNat ++ [y] ++ xs.drop i.toNat)))
end Bk

namespace Bk
open PySem PySem.Spec PyProof.Rows L2
theorem sum3_ge {f : K3 → Int} {es : E3} (h : ∀ e ∈ es, 0 ≤ e.2 * f e.1) : 0 ≤ sum3 f es := by
  induction es with
  | nil => exact Int.le_refl 0
  | cons x r ih =>
    rw [sum3_cons]
    have := h x List.mem_cons_self
    have := ih fun e he => h e (List.mem_cons_of_mem _ he)
    omega
theorem sum3_each {f : K3 → Int} {es : E3} (h : ∀ e ∈ es, 0 ≤ e.2 * f e.1) : ∀ e ∈ es, e.2 * f e.1 ≤ sum3 f es := by
  induction es with
  | nil => intro e he; cases he
  | cons x r ih =>
    intro e he
    rw [sum3_cons]
    have hr : ∀ e ∈ r, 0 ≤ e.2 * f e.1 := fun e he => h e (List.mem_cons_of_mem _ he)
    have h0 := sum3_ge hr
    have h1 := h x List.mem_cons_self
    rcases List.mem_cons.mp he with rfl | he
    · omega
    · have := ih hr e he
      omega
theorem Lots.le_tot {gs : List Good} {n : Nat} {es : E3} (h : Lots gs n es) : ∀ e ∈ es, 0 < e.2 ∧ e.2 ≤ ((gs.length * n : Nat) : Int) * 1000000000 := fun e he => by
  refine ⟨h.pos e he, ?_⟩
  have := sum3_each (f := fun _ => 1) (fun x hx => by have := h.pos x hx; omega) e he
  have := h.tot
  omega
theorem lots_bound {a n : Nat} (ha : a ≤ 2) (hn : n ≤ 40) : ((a * n : Nat) : Int) * 1000000000 ≤ 80000000000 := by
  have : a * n ≤ 2 * 40 := Nat.mul_le_mul ha hn
  omega
theorem Lots.small {gs : List Good} {n : Nat} {es : E3} (h : Lots gs n es) (hg : gs.length ≤ 2) (hn : n ≤ 40) : SmallR (es.map rowE) := by
  have hl := h.len
  have : gs.length * n ≤ 2 * 40 := Nat.mul_le_mul hg hn
  refine ⟨by rw [List.length_map]; omega, fun r hr => ?_⟩
  obtain ⟨e, he, rfl⟩ := List.mem_map.mp hr
  have hk := h.keys _ (List.mem_map.mpr ⟨e, he, rfl⟩)
  have h1 := h.le_tot e he
  have h2 := lots_bound hg hn
  obtain ⟨g, hg1, hp⟩ := hk.p
  have hb : e.1.2.1 < gs.length := (List.getElem?_eq_some_iff.mp hg1).1
  have ha := hk.a
  have hc := hk.c
  refine ⟨by show e.1.1 < 1000; omega, by show e.1.2.1 < 1000; omega, by show e.1.2.2 < 1000; omega, ?_⟩
  show e.2.natAbs < 10 ^ 12
  exact Nat.lt_of_le_of_lt (show e.2.natAbs ≤ 80000000000 by omega) (by decide)
theorem TkAll.setAt {H : Hp} {x : V} {e : PyData} : ∀ {vs : List V} {ds : List PyData} {i : Nat}, TkAll H vs ds → Tk H x e → TkAll H (vs.set i x) (ds.set i e)
  | _, _, _, .nil, _ => .nil
  | _, _, 0, .cons _ t, h => .cons h t
  | _, _, i + 1, .cons h t, h2 => .cons h (TkAll.setAt t h2)
/-- the last day's loaf put otherwise, the first light too -/
def turnD (d : Day) : Day := ⟨d.want, 1000000000 - d.loaf, d.keep, d.fine⟩
def turnG (g : Good) : Good := match g.days[g.days.length - 1]? with
  | some d => ⟨g.days.set (g.days.length - 1) (turnD d), g.life⟩
  | none => g
end Bk

namespace Bk
open PySem PySem.Spec PyProof.Rows L2
theorem OwnG.upd {H : Hp} {q : Addr × Addr} {g : Good} {A : Addr} {ys : List V} {o : HO} (h : OwnG H q g) (hA : H A = some (.lst ys)) (ne : q.2 ≠ A) : OwnG (upd H A o) q g := by
  obtain ⟨xs, h1, h2⟩ := h.lst
  refine ⟨?_, xs, by rw [upd_ne ne]; exact h1, h2.same (tupsOf_upd hA)⟩
  rw [upd_ne fun z => by have := h.tup; rw [z, hA] at this; cases this]
  exact h.tup
theorem OwnGs.upd {H : Hp} {A : Addr} {ys : List V} {o : HO} (hA : H A = some (.lst ys)) : ∀ {ps : List (Addr × Addr)} {gs : List Good}, OwnGs H ps gs → (∀ q ∈ ps, q.2 ≠ A) → OwnGs (upd H A o) ps gs
  | _, _, .nil, _ => .nil
  | _, _, .cons h t, ne => .cons (h.upd hA (ne _ List.mem_cons_self)) (OwnGs.upd hA t fun q hq => ne q (List.mem_cons_of_mem _ hq))
theorem OwnGs.mem {H : Hp} : ∀ {ps : List (Addr × Addr)} {gs : List Good}, OwnGs H ps gs → ∀ q ∈ ps, ∃ g ∈ gs, OwnG H q g
  | _, _, .nil, q, hq => by cases hq
  | _, _, .cons h t, q, hq => by
    rcases List.mem_cons.mp hq with rfl | hq
    · exact ⟨_, List.mem_cons_self, h⟩
    · obtain ⟨g, hg, hq2⟩ := OwnGs.mem t q hq
      exact ⟨g, List.mem_cons_of_mem _ hg, hq2⟩
/-- a list of days holds no numbers, and no goods -/
theorem OwnG.head {H : Hp} {q : Addr × Addr} {g : Good} (h : OwnG H q g) (hn : 1 ≤ g.days.length) : ∃ (t : Addr) (d : Day) (xs : List V), H q.2 = some (.lst (.ref t :: xs)) ∧ H t = some (.tup [.int d.want, .int d.loaf, .int d.keep, optV d.fine]) := by
  obtain ⟨xs, h1, h2⟩ := h.lst
  cases hd : g.days with
  | nil => rw [hd] at hn; simp at hn
  | cons d r =>
    rw [hd] at h2
    have h2 : TkAll (tupsOf H) xs (dayD d :: r.map dayD) := h2
    cases h2 with
    | cons h3 h4 =>
      have h3 : Tk (tupsOf H) _ (.tuple [.int d.want, .int d.loaf, .int d.keep, optD d.fine]) := h3
      cases h3 with
      | tup ht hta =>
        cases hta with
        | cons t1 hta => cases hta with
        | cons t2 hta => cases hta with
        | cons t3 hta => cases hta with
        | cons t4 hta =>
        cases hta
        cases t1; cases t2; cases t3
        have e := t4.opt
        subst e
        exact ⟨_, d, _, h1, (tupsOf_is ht).1⟩
structure Apart (H : Hp) (L G : Addr) (ps : List (Addr × Addr)) : Prop where
  lg : L ≠ G
  ql : ∀ q ∈ ps, q.2 ≠ L
  qg : ∀ q ∈ ps, q.2 ≠ G
theorem OwnB.parts {H : Hp} {L G : Addr} {ps : List (Addr × Addr)} {ls : List Int} {gs : List Good} (h : OwnB H L G ps ls gs) (h1 : 1 ≤ ls.length) (h2 : 1 ≤ gs.length) (h3 : ∀ g ∈ gs, 1 ≤ g.days.length) : Apart H L G ps := by
  obtain ⟨l0, lr, rfl⟩ : ∃ l0 lr, ls = l0 :: lr := by
    cases ls with
    | nil => simp at h1
    | cons a b => exact ⟨a, b, rfl⟩
  have hps := h.goods.length
  obtain ⟨q0, qr, rfl⟩ : ∃ q0 qr, ps = q0 :: qr := by
    cases ps with
    | nil => simp at hps; omega
    | cons a b => exact ⟨a, b, rfl⟩
  have hL := h.lights
  have hG := h.list
  refine ⟨fun z => ?_, fun q hq z => ?_, fun q hq z => ?_⟩
  · rw [z, hG] at hL
    cases hL
  · obtain ⟨g, hg, ho⟩ := h.goods.mem q hq
    obtain ⟨t, d, xs, e1, e2⟩ := ho.head (h3 g hg)
    rw [z, hL] at e1
    cases e1
  · obtain ⟨g, hg, ho⟩ := h.goods.mem q hq
    obtain ⟨t, d, xs, e1, e2⟩ := ho.head (h3 g hg)
    rw [z, hG] at e1
    cases e1
    obtain ⟨g0, hg0, ho0⟩ := h.goods.mem q0 List.mem_cons_self
    have := ho0.tup
    rw [e2] at this
    cases this
theorem OwnB.light {H : Hp} {L G : Addr} {ps : List (Addr × Addr)} {ls ms : List Int} {gs : List Good} (h : OwnB H L G ps ls gs) (a : Apart H L G ps) : OwnB (upd H L (.lst (ms.map V.int))) L G ps ms gs :=
  ⟨upd_same, by rw [upd_ne a.lg.symm]; exact h.list, h.goods.upd h.lights a.ql, h.apart⟩
theorem OwnB.day {H : Hp} {L G : Addr} {q : Addr × Addr} {ps : List (Addr × Addr)} {ls : List Int} {g g' : Good} {gs : List Good} {m : Nat} {t : Addr} {d : Day} {xs : List V} (h : OwnB H L G (q :: ps) ls (g :: gs)) (a : Apart H L G (q :: ps)) (hx : H q.2 = some (.lst xs)) (ht : H t = some (.tup [.int d.want, .int d.loaf, .int d.keep, optV d.fine])) (h1 : g'.life = g.life) (h2 : g'.days = g.days.set m d) : OwnB (upd H q.2 (.lst (xs.set m (.ref t)))) L G (q :: ps) ls (g' :: gs) := by
  have hnd := h.apart
  rw [List.map_cons, List.nodup_cons] at hnd
  have hg := h.goods
  cases hg with
  | cons ho hr =>
  obtain ⟨ys, e1, e2⟩ := ho.lst
  rw [hx] at e1
  cases e1
  have su := tupsOf_upd (o := .lst (xs.set m (.ref t))) hx
  refine ⟨by rw [upd_ne (a.ql q List.mem_cons_self).symm]; exact h.lights, by rw [upd_ne (a.qg q List.mem_cons_self).symm]; exact h.list, .cons ⟨?_, _, upd_same, ?_⟩ (hr.upd hx fun p hp z => hnd.1 (List.mem_map.mpr ⟨p, hp, z⟩)), h.apart⟩
  · rw [upd_ne (fun z => by have := ho.tup; rw [z, hx] at this; cases this), h1]
    exact ho.tup
  · rw [h2, List.map_set]
    refine TkAll.setAt (e2.same su) (.tup (su _ _ (tupsOf_at ht)) (.cons (.int _) (.cons (.int _) (.cons (.int _) (.cons (Tk.optV _) .nil)))))
end Bk

namespace Bk
open PySem PySem.Spec PyProof.Rows L2
/-! ### enumerate over zip: zip's own pair may be held by what enumerate hands out, be gone, or not be there yet -/
abbrev zObj (f0 : Value) (f : Bool) (TI TO : Addr) : Obj := { cls := .type "zip", dict := none, data := .fields #[f0, .bool f, .bool false, .ref TI, .ref TO], slots := #[] }
section
variable {prog : Program} {w : World} {A : Around} {E : Value → Shared → Prop} {s : Shared}
theorem load_if {a : Addr} {Q : Option Obj → Shared → Prop} (h : Q (s.heap.get? a) s) : wpAny (model prog w) A (loadIfAlive a) Q E s := fun _ _ _ => h
/-- zip's pair may be written again: it is not there yet, or gone -/
def MayWrite (h : Heap) (f0 : Value) : Prop := f0 = .none ∨ ∃ T : Addr, f0 = rawInt T ∧ h.get? T = none
theorem zip_may {z TI TO : Addr} {f0 : Value} {f : Bool} {Q : Bool → Shared → Prop} (hz : s.heap.get? z = some (zObj f0 f TI TO)) (hm : MayWrite s.heap f0) (h : Q true s) :
    wpAny (model prog w) A (Builtin.SmallTypes.ownedTupleIsFree (.ref z)) Q E s := by
  unfold Builtin.SmallTypes.ownedTupleIsFree
  rcases hm with rfl | ⟨T, rfl, hT⟩
  · exact wpAny_bind (wpAny_field hz rfl (x := .none) rfl (wpAny_pure h))
  · refine wpAny_bind (wpAny_field hz rfl (x := rawInt T) rfl ?_)
    show wpAny _ _ (loadIfAlive ((T : Int).toNat) >>= _) _ _ _
    rw [Int.toNat_natCast]
    refine wpAny_bind (load_if ?_)
    rw [hT]
    exact wpAny_pure h
theorem zip_item_may {z TI TO i1 i2 l1 l2 : Addr} {f0 : Value} {f : Bool} {k : Nat} {xs ys : Array Value} {x y a b : Value} {Q : Value → Shared → Prop} (D : ZipApart z TI TO i1 i2 l1 l2)
    (hz : s.heap.get? z = some (zObj f0 f TI TO)) (hm : MayWrite s.heap f0) (hTI : IsPair s.heap TI (.ref i1) (.ref i2)) (hTO : IsPair s.heap TO a b)
    (h1 : s.heap.IsListIter i1 l1 k) (h2 : s.heap.IsListIter i2 l2 k) (hl1 : s.heap.IsList l1 xs) (hl2 : s.heap.IsList l2 ys) (hx : xs[k]? = some x) (hy : ys[k]? = some y)
    (hQ : ∀ h', h'.get? z = some (zObj (rawInt s.heap.objs.size) false TI TO) → IsPair h' TO x y → h'.IsListIter i1 l1 (k + 1) → h'.IsListIter i2 l2 (k + 1) → IsPair h' s.heap.objs.size x y → h'.objs.size = s.heap.objs.size + 1 →
      (∀ c o, c ≠ z → c ≠ TO → c ≠ i1 → c ≠ i2 → s.heap.get? c = some o → h'.get? c = some o) → Q (.ref s.heap.objs.size) { s with heap := h' }) :
    wpAny (model prog w) A (Builtin.«zip.__next__» ⟨[.ref z], []⟩) (fun fin s' => ∃ v, fin = .done (.ret v) ∧ Q v s') E s := by
  show wpAny _ _ (field (.ref z) 2 >>= _) _ _ _
  refine wpAny_bind (wpAny_field hz rfl (x := .bool false) rfl ?_)
  show wpAny _ _ (field (.ref z) 3 >>= _) _ _ _
  refine wpAny_bind (wpAny_field hz rfl (x := .ref TI) rfl (wpAny_bind (wpAny_seqItems hTI rfl ?_)))
  show wpAny _ _ (Builtin.SmallTypes.ownedTupleIsFree (.ref z) >>= _) _ _ _
  refine wpAny_bind (zip_may hz hm ?_)
  simp only [if_true]
  refine wpAny_bind (wpAny_rule (wpAny_bind (wpAny_field hz rfl (x := .ref TO) rfl (wpAny_bind (wpAny_setField_rec hz (by simp) fun g1 z1 s1 => ?_)))))
  replace z1 : g1.get? z = some (zObj .ellipsis f TI TO) := z1
  refine wpAny_bind ?_
  simp only [List.zipIdx_cons, List.zipIdx_nil, List.forIn_cons, List.forIn_nil]
  refine wpAny_bind (wpAny_bind (wpAny_onRaise ?_))
  show wpAny _ _ (Builtin.SmallTypes.nextOf (.ref i1) >>= _) _ _ _
  refine wpAny_bind (wpAny_nextOf_list_item (h1.extBut s1.extBut D.i1z) (hl1.extBut s1.extBut D.l1z) hx fun g2 e1 s2 => wpAny_pure ?_)
  have o2 : IsPair g2 TO a b := s2.extBut _ _ D.TOi1 (s1.extBut _ _ D.TOz hTO)
  refine wpAny_bind (wpAny_seqItems o2 rfl (wpAny_bind (wpAny_updateSeq_pair o2 fun g3 o3 s3 => ?_)))
  replace o3 : IsPair g3 TO x b := o3
  refine wpAny_bind (wpAny_letGo (wpAny_pure (wpAny_bind (wpAny_bind (wpAny_onRaise ?_)))))
  show wpAny _ _ (Builtin.SmallTypes.nextOf (.ref i2) >>= _) _ _ _
  refine wpAny_bind (wpAny_nextOf_list_item (((h2.extBut s1.extBut D.i2z).extBut s2.extBut D.i12.symm).extBut s3.extBut D.TOi2.symm)
    (((hl2.extBut s1.extBut D.l2z).extBut s2.extBut D.l2i1).extBut s3.extBut D.l2TO) hy fun g4 e2 s4 => wpAny_pure ?_)
  have o4 : IsPair g4 TO x b := s4.extBut _ _ D.TOi2 o3
  refine wpAny_bind (wpAny_seqItems o4 rfl (wpAny_bind (wpAny_updateSeq_pair o4 fun g5 o5 s5 => ?_)))
  replace o5 : IsPair g5 TO x y := o5
  refine wpAny_bind (wpAny_letGo (wpAny_pure (wpAny_pure (wpAny_bind (wpAny_seqItems o5 rfl (wpAny_bind (wpAny_newTuple ?_)))))))
  have hsz : g5.objs.size = s.heap.objs.size := by rw [s5.1, s4.1, s3.1, s2.1, s1.1]
  have z5 : g5.get? z = some (zObj .ellipsis f TI TO) := s5.extBut _ _ D.TOz.symm (s4.extBut _ _ D.i2z.symm (s3.extBut _ _ D.TOz.symm (s2.extBut _ _ D.i1z.symm z1)))
  have k5 : ∀ c o, c ≠ z → c ≠ TO → c ≠ i1 → c ≠ i2 → s.heap.get? c = some o → g5.get? c = some o := fun c o c1 c2 c3 c4 e =>
    s5.extBut _ _ c2 (s4.extBut _ _ c4 (s3.extBut _ _ c2 (s2.extBut _ _ c3 (s1.extBut _ _ c1 e))))
  have e15 : g5.IsListIter i1 l1 (k + 1) := ((e1.extBut s3.extBut D.TOi1.symm).extBut s4.extBut D.i12).extBut s5.extBut D.TOi1.symm
  have e25 : g5.IsListIter i2 l2 (k + 1) := e2.extBut s5.extBut D.TOi2.symm
  have zlt : z < g5.objs.size := Heap.lt_size z5
  show wpAny _ _ (Builtin.SmallTypes.ownedTupleHandOut (.ref z) (.ref g5.objs.size) >>= _) _ _ _
  refine wpAny_bind ?_
  unfold Builtin.SmallTypes.ownedTupleHandOut
  have z6 : (g5.push { cls := .type "tuple", data := .seq #[x, y] }).get? z = some (zObj .ellipsis f TI TO) := Heap.get?_push_of_some _ z5
  refine wpAny_bind (wpAny_setField_rec z6 (by simp) fun g7 z7 s7 => ?_)
  replace z7 : g7.get? z = some (zObj (rawInt g5.objs.size) f TI TO) := z7
  refine wpAny_setField_rec z7 (by simp) fun g8 z8 s8 => ?_
  replace z8 : g8.get? z = some (zObj (rawInt g5.objs.size) false TI TO) := z8
  have up : ∀ c o, c ≠ z → g5.get? c = some o → g8.get? c = some o := fun c o c1 e => s8.extBut _ _ c1 (s7.extBut _ _ c1 (Heap.get?_push_of_some _ e))
  have t8 : IsPair g8 g5.objs.size x y := s8.extBut _ _ (Nat.ne_of_gt zlt) (s7.extBut _ _ (Nat.ne_of_gt zlt) (Heap.get?_push_size _ rfl))
  have n8 : g8.objs.size = g5.objs.size + 1 := by rw [s8.1, s7.1, Heap.size_push]
  rw [hsz] at z8 t8 n8
  refine wpAny_pure ⟨_, rfl, ?_⟩
  show Q (.ref g5.objs.size) _
  rw [hsz]
  exact hQ g8 z8 (up _ _ D.TOz o5) (e15.at fun o e => up _ o D.i1z e) (e25.at fun o e => up _ o D.i2z e) t8 n8 fun c o c1 c2 c3 c4 e => up c o c1 (k5 c o c1 c2 c3 c4 e)
theorem zip_end_may {z TI TO i1 i2 l1 l2 : Addr} {f0 : Value} {f : Bool} {k : Nat} {xs ys : Array Value} {a b : Value} {Q : Fin → Shared → Prop} (hh : A.handled = none) (D : ZipApart z TI TO i1 i2 l1 l2)
    (hz : s.heap.get? z = some (zObj f0 f TI TO)) (hm : MayWrite s.heap f0) (hTI : IsPair s.heap TI (.ref i1) (.ref i2)) (hTO : IsPair s.heap TO a b)
    (h1 : s.heap.IsListIter i1 l1 k) (h2 : s.heap.IsListIter i2 l2 k) (hl1 : s.heap.IsList l1 xs) (hl2 : s.heap.IsList l2 ys) (hend : xs[k]? = none ∨ ys[k]? = none)
    (hE : ∀ h' e, (∀ c o, c ≠ z → c ≠ TO → c ≠ i1 → c ≠ i2 → s.heap.get? c = some o → h'.get? c = some o) → (∃ o, h'.get? e = some o ∧ o.cls = .type "StopIteration") → E (.ref e) { s with heap := h' }) :
    wpAny (model prog w) A (Builtin.«zip.__next__» ⟨[.ref z], []⟩) Q E s := by
  show wpAny _ _ (field (.ref z) 2 >>= _) _ _ _
  refine wpAny_bind (wpAny_field hz rfl (x := .bool false) rfl ?_)
  show wpAny _ _ (field (.ref z) 3 >>= _) _ _ _
  refine wpAny_bind (wpAny_field hz rfl (x := .ref TI) rfl (wpAny_bind (wpAny_seqItems hTI rfl ?_)))
  show wpAny _ _ (Builtin.SmallTypes.ownedTupleIsFree (.ref z) >>= _) _ _ _
  refine wpAny_bind (zip_may hz hm ?_)
  simp only [if_true]
  refine wpAny_bind (wpAny_rule (wpAny_bind (wpAny_field hz rfl (x := .ref TO) rfl (wpAny_bind (wpAny_setField_rec hz (by simp) fun g1 z1 s1 => ?_)))))
  replace z1 : g1.get? z = some (zObj .ellipsis f TI TO) := z1
  refine wpAny_bind ?_
  simp only [List.zipIdx_cons, List.zipIdx_nil, List.forIn_cons, List.forIn_nil]
  refine wpAny_bind (wpAny_bind (wpAny_onRaise ?_))
  show wpAny _ _ (Builtin.SmallTypes.nextOf (.ref i1) >>= _) _ _ _
  have fin : ∀ (g : Heap) (e : Addr), g.get? z = some (zObj .ellipsis f TI TO) → (∃ o, g.get? e = some o ∧ o.cls = .type "StopIteration") → (∀ c o, c ≠ z → c ≠ TO → c ≠ i1 → c ≠ i2 → s.heap.get? c = some o → g.get? c = some o) →
      wpAny (model prog w) A (setField (.ref z) 0 .none) (fun _ => E (.ref e)) E { s with heap := g } := fun g e zg ⟨oe, he, hc⟩ hk => by
    have hez : e ≠ z := fun q => by subst q; rw [zg] at he; cases he; simp at hc
    exact wpAny_setField_rec zg (by simp) fun g' _ sg => hE g' e (fun c o c1 c2 c3 c4 q => sg.extBut _ _ c1 (hk c o c1 c2 c3 c4 q)) ⟨oe, sg.extBut _ _ hez he, hc⟩
  cases hx : xs[k]? with
  | none =>
    refine wpAny_bind (wpAny_nextOf_list_end hh (h1.extBut s1.extBut D.i1z) (hl1.extBut s1.extBut D.l1z) hx fun g2 e s2 he => ?_)
    exact fin g2 e (s2 _ _ D.i1z.symm z1) he fun c o c1 _ c3 _ q => s2 _ _ c3 (s1.extBut _ _ c1 q)
  | some x =>
    have hy : ys[k]? = none := by rcases hend with h | h; rw [hx] at h; cases h; exact h
    refine wpAny_bind (wpAny_nextOf_list_item (h1.extBut s1.extBut D.i1z) (hl1.extBut s1.extBut D.l1z) hx fun g2 e1 s2 => wpAny_pure ?_)
    have o2 : IsPair g2 TO a b := s2.extBut _ _ D.TOi1 (s1.extBut _ _ D.TOz hTO)
    refine wpAny_bind (wpAny_seqItems o2 rfl (wpAny_bind (wpAny_updateSeq_pair o2 fun g3 o3 s3 => ?_)))
    refine wpAny_bind (wpAny_letGo (wpAny_pure (wpAny_bind (wpAny_bind (wpAny_onRaise ?_)))))
    show wpAny _ _ (Builtin.SmallTypes.nextOf (.ref i2) >>= _) _ _ _
    refine wpAny_bind (wpAny_nextOf_list_end hh (((h2.extBut s1.extBut D.i2z).extBut s2.extBut D.i12.symm).extBut s3.extBut D.TOi2.symm)
      (((hl2.extBut s1.extBut D.l2z).extBut s2.extBut D.l2i1).extBut s3.extBut D.l2TO) hy fun g4 e s4 he => ?_)
    exact fin g4 e (s4 _ _ D.i2z.symm (s3.extBut _ _ D.TOz.symm (s2.extBut _ _ D.i1z.symm z1))) he fun c o c1 c2 c3 c4 q => s4 _ _ c4 (s3.extBut _ _ c2 (s2.extBut _ _ c3 (s1.extBut _ _ c1 q)))
/-- zip over two lists, k pairs told, whatever became of them -/
structure ZSt (z TI TO i1 i2 l1 l2 : Addr) (k : Nat) (h : Heap) : Prop where
  obj : ∃ (f0 : Value) (f : Bool), h.get? z = some (zObj f0 f TI TO) ∧ (f0 = .none ∨ ∃ T : Addr, f0 = rawInt T)
  ti : IsPair h TI (.ref i1) (.ref i2)
  to : ∃ a b, IsPair h TO a b
  i1 : h.IsListIter i1 l1 k
  i2 : h.IsListIter i2 l2 k
theorem ZSt.next {z TI TO i1 i2 l1 l2 : Addr} {k : Nat} {xs ys : Array Value} {x y : Value} {Q : Value → Shared → Prop} (D : ZipApart z TI TO i1 i2 l1 l2) (Z : ZSt z TI TO i1 i2 l1 l2 k s.heap)
    (hl1 : s.heap.IsList l1 xs) (hl2 : s.heap.IsList l2 ys) (hx : xs[k]? = some x) (hy : ys[k]? = some y)
    (hQ : ∀ h', ZSt z TI TO i1 i2 l1 l2 (k + 1) h' → IsPair h' s.heap.objs.size x y → h'.objs.size = s.heap.objs.size + 1 →
      (∀ c o, c ≠ z → c ≠ TO → c ≠ i1 → c ≠ i2 → s.heap.get? c = some o → h'.get? c = some o) → Q (.ref s.heap.objs.size) { s with heap := h' }) :
    wpAny (model prog w) A (Builtin.SmallTypes.nextOf (.ref z)) Q E s := by
  obtain ⟨⟨f0, f, hz, hf⟩, hTI, ⟨a, b, hTO⟩, h1, h2⟩ := Z
  have hTy : s.TypeIs (.ref z) "zip" := ⟨_, hz, rfl⟩
  unfold Builtin.SmallTypes.nextOf
  refine wpAny_bind (wpAny_callSpecial?_slot (name := Str.ofString "__next__") hTy F.slot_zip_next
    (wpAny_call_entry F.slot_zip_next hTy F.entry_zip_next ?_ (F.args_zip_next_1 _)))
  rcases hf with rfl | ⟨T, rfl⟩
  · exact zip_item_may D hz (.inl rfl) hTI hTO h1 h2 hl1 hl2 hx hy fun h' a1 a2 a3 a4 a5 a6 a7 => wpAny_pure (hQ h' ⟨⟨_, _, a1, .inr ⟨_, rfl⟩⟩, a7 _ _ D.TIz D.TITO D.TIi1 D.TIi2 hTI, ⟨_, _, a2⟩, a3, a4⟩ a5 a6 a7)
  · cases hT : s.heap.get? T with
    | none => exact zip_item_may D hz (.inr ⟨T, rfl, hT⟩) hTI hTO h1 h2 hl1 hl2 hx hy fun h' a1 a2 a3 a4 a5 a6 a7 => wpAny_pure (hQ h' ⟨⟨_, _, a1, .inr ⟨_, rfl⟩⟩, a7 _ _ D.TIz D.TITO D.TIi1 D.TIi2 hTI, ⟨_, _, a2⟩, a3, a4⟩ a5 a6 a7)
    | some oT =>
      exact zip_next_item_held D hz hT hTI h1 h2 hl1 hl2 hx hy fun h' a1 a3 a4 a5 a6 a7 =>
        wpAny_pure (hQ h' ⟨⟨_, _, a1, .inr ⟨_, rfl⟩⟩, a7 _ _ D.TIz D.TIi1 D.TIi2 hTI, ⟨_, _, a7 _ _ D.TOz D.TOi1 D.TOi2 hTO⟩, a3, a4⟩ a5 a6 fun c o c1 _ c3 c4 => a7 c o c1 c3 c4)
theorem ZSt.stop {z TI TO i1 i2 l1 l2 : Addr} {k : Nat} {xs ys : Array Value} {Q : Value → Shared → Prop} (hh : A.handled = none) (D : ZipApart z TI TO i1 i2 l1 l2) (Z : ZSt z TI TO i1 i2 l1 l2 k s.heap)
    (hl1 : s.heap.IsList l1 xs) (hl2 : s.heap.IsList l2 ys) (hend : xs[k]? = none ∨ ys[k]? = none)
    (hE : ∀ h' e, (∀ c o, c ≠ z → c ≠ TO → c ≠ i1 → c ≠ i2 → s.heap.get? c = some o → h'.get? c = some o) → (∃ o, h'.get? e = some o ∧ o.cls = .type "StopIteration") → E (.ref e) { s with heap := h' }) :
    wpAny (model prog w) A (Builtin.SmallTypes.nextOf (.ref z)) Q E s := by
  obtain ⟨⟨f0, f, hz, hf⟩, hTI, ⟨a, b, hTO⟩, h1, h2⟩ := Z
  have hTy : s.TypeIs (.ref z) "zip" := ⟨_, hz, rfl⟩
  unfold Builtin.SmallTypes.nextOf
  refine wpAny_bind (wpAny_callSpecial?_slot (name := Str.ofString "__next__") hTy F.slot_zip_next
    (wpAny_call_entry F.slot_zip_next hTy F.entry_zip_next ?_ (F.args_zip_next_1 _)))
  rcases hf with rfl | ⟨T, rfl⟩
  · exact zip_end_may hh D hz (.inl rfl) hTI hTO h1 h2 hl1 hl2 hend hE
  · cases hT : s.heap.get? T with
    | none => exact zip_end_may hh D hz (.inr ⟨T, rfl, hT⟩) hTI hTO h1 h2 hl1 hl2 hend hE
    | some oT => exact zip_next_end_held hh D hz hT hTI h1 h2 hl1 hl2 hend fun h' e hk => hE h' e fun c o c1 _ c3 c4 => hk c o c1 c3 c4
end
/-- the lists at a and b as they stand at each turn: the count, and beside it a new pair of the two items -/
def Itez (K : PySem.W.Frag) (a b : Addr) : It :=
  ⟨fun i H => ∃ (xs ys : List V) (x y : V), SqL K H a xs ∧ SqL K H b ys ∧ xs[i]? = some x ∧ ys[i]? = some y,
    fun i H v H' => ∃ T U x y, v = .ref U ∧ H T = none ∧ upd H T (.tup [x, y]) U = none ∧ H' = upd (upd H T (.tup [x, y])) U (.tup [.int (i : Nat), .ref T]) ∧ (∀ xs, SqL K H a xs → xs[i]? = some x) ∧ ∀ ys, SqL K H b ys → ys[i]? = some y,
    fun i H => ∃ xs ys : List V, SqL K H a xs ∧ SqL K H b ys ∧ (xs.length ≤ i ∨ ys.length ≤ i)⟩
section
open AutoSeq1 (wpAny_loadPart')
end
section
variable {prog : Program} {w : World} {A : Around} {E : Value → Shared → Prop} {s : Shared}
end
def iEnumZip (K : PySem.W.Frag) (ta : TA) : TI := fun σ H R => ta σ H fun vs H1 => ∃ a b xs ys, vs = [.ref a, .ref b] ∧ SqL K H1 a xs ∧ SqL K H1 b ys ∧ R (Itez K a b) H1
/-- the count and a new pair of the i-th of both -/
def YEz (xs ys : Nat → Option V) : Nat → Hp → V → Hp → Prop := fun i H v H' => ∃ T U x y, v = .ref U ∧ H T = none ∧ upd H T (.tup [x, y]) U = none ∧ H' = upd (upd H T (.tup [x, y])) U (.tup [.int (i : Nat), .ref T]) ∧ xs i = some x ∧ ys i = some y
def rEnumZip (K : PySem.W.Frag) (vs : List V) (H : Hp) (R : It → Hp → Prop) : Prop := ∃ a b xs ys, vs = [.ref a, .ref b] ∧ SqL K H a xs ∧ SqL K H b ys ∧ R (Itez K a b) H
end Bk

namespace Bk
open PySem PySem.Spec PyProof.Rows L2
open C8 (Met pe_mt pe_mt0)
/-! ### a ledger: what stands beside its own three lists -/
def but (S : List Addr) (H : Hp) : Hp := fun b => if b ∈ S then none else H b
theorem but_at {S : List Addr} {H : Hp} {b : Addr} {o : HO} (h : b ∉ S) (e : H b = some o) : but S H b = some o := by
  unfold but
  rw [if_neg h]
  exact e
theorem but_is {S : List Addr} {H : Hp} {b : Addr} {o : HO} (e : but S H b = some o) : b ∉ S ∧ H b = some o := by
  unfold but at e
  split at e
  · cases e
  · rename_i h
    exact ⟨h, e⟩
theorem but_same (S : List Addr) (H : Hp) : Same (but S H) H := fun b o e => (but_is e).2
theorem but_mono {S : List Addr} {H H' : Hp} (s : Same H H') : Same (but S H) (but S H') := fun b o e => but_at (but_is e).1 (s _ _ (but_is e).2)
theorem but_upd {S : List Addr} {H : Hp} {a : Addr} {o : HO} (h : a ∈ S) : but S (upd H a o) = but S H := by
  funext b
  unfold but
  by_cases hb : b ∈ S
  · rw [if_pos hb, if_pos hb]
  · rw [if_neg hb, if_neg hb, upd_ne (fun z => hb (by rw [z]; exact h))]
/-! ### the fields -/
def lf (L D E : Addr) (life : V) : List (Str × V) := [("lights", .ref L), ("days", .ref D), ("life", life), ("deeds", .ref E)]
/-! ### deeds -/
abbrev Deed := Option (Nat × Str × Option Int)
def Dd (H : Hp) (v : V) : Deed → Prop
  | none => v = .non
  | some (a, s, o) => ∃ t, v = .ref t ∧ H t = some (.tup [.int (a : Int), .str s, optV o])
theorem Dd.same {H H' : Hp} {v : V} {d : Deed} (s : Same (tupsOf H) (tupsOf H')) (h : Dd H v d) : Dd H' v d := by
  match d, h with
  | none, h => exact h
  | some (a, z, o), ⟨t, e, h⟩ => exact ⟨t, e, (tupsOf_is (s _ _ (tupsOf_at h))).1⟩
inductive Dds (H : Hp) : List V → List Deed → Prop
  | nil : Dds H [] []
  | cons {v : V} {d : Deed} {vs : List V} {ds : List Deed} : Dd H v d → Dds H vs ds → Dds H (v :: vs) (d :: ds)
theorem Dds.same {H H' : Hp} (s : Same (tupsOf H) (tupsOf H')) : ∀ {vs : List V} {ds : List Deed}, Dds H vs ds → Dds H' vs ds
  | _, _, .nil => .nil
  | _, _, .cons h t => .cons (h.same s) (Dds.same s t)
theorem Dds.length {H : Hp} : ∀ {vs : List V} {ds : List Deed}, Dds H vs ds → vs.length = ds.length
  | _, _, .nil => rfl
  | _, _, .cons _ t => by rw [List.length_cons, List.length_cons, Dds.length t]
theorem Dds.snoc {H : Hp} {v : V} {d : Deed} : ∀ {vs : List V} {ds : List Deed}, Dds H vs ds → Dd H v d → Dds H (vs ++ [v]) (ds ++ [d])
  | _, _, .nil, h => .cons h .nil
  | _, _, .cons g t, h => .cons g (Dds.snoc t h)
/-- the last deed, and those ahead of it -/
theorem Dds.last {H : Hp} : ∀ {vs : List V} {ds : List Deed} {d : Deed}, Dds H vs (ds ++ [d]) → ∃ us v, vs = us ++ [v] ∧ Dds H us ds ∧ Dd H v d
  | vs, [], d, h0 => by
    have h : Dds H vs ([d] : List Deed) := h0
    cases h with
    | cons hd t => cases t; exact ⟨[], _, rfl, .nil, hd⟩
  | vs, e :: ds, d, h0 => by
    have h : Dds H vs (e :: (ds ++ [d])) := h0
    cases h with
    | cons hd t =>
      obtain ⟨us, v, rfl, h1, h2⟩ := Dds.last t
      exact ⟨_ :: us, v, rfl, .cons hd h1, h2⟩
structure Led (C : Addr) (H : Hp) (p L D E : Addr) (ls : List Int) (g : Good) (ds : List Deed) : Prop where
  obj : ∃ dx, H p = some (.ins C dx (lf L D E (optV g.life)))
  li : H L = some (.lst (ls.map V.int))
  da : ∃ xs, H D = some (.lst xs) ∧ TkAll (tupsOf H) xs (g.days.map dayD)
  de : ∃ ws, H E = some (.lst ws) ∧ Dds H ws ds
  ok : bakB (bakD ⟨ls, none, [g]⟩) = true
  ld : L ≠ D
  le : L ≠ E
  dE : D ≠ E
theorem Led.same {C p L D E : Addr} {H H' : Hp} {ls : List Int} {g : Good} {ds : List Deed} (h : Led C H p L D E ls g ds) (s : Same H H') : Led C H' p L D E ls g ds := by
  obtain ⟨⟨dx, ho⟩, hl, ⟨xs, hd, ht⟩, ⟨ws, he, hw⟩, ok, a, b, c⟩ := h
  exact ⟨⟨dx, s _ _ ho⟩, s _ _ hl, ⟨xs, s _ _ hd, ht.same (tupsOf_mono s)⟩, ⟨ws, s _ _ he, hw.same (tupsOf_mono s)⟩, ok, a, b, c⟩
section
variable {C p L D E : Addr} {H : Hp} {ls : List Int} {g : Good} {ds : List Deed}
theorem Led.light (h : Led C H p L D E ls g ds) {i : Nat} {z : Int} (hz : numD (.int z) = true) : Led C (upd H L (.lst ((ls.set i z).map V.int))) p L D E (ls.set i z) g ds := by
  obtain ⟨⟨dx, ho⟩, hl, ⟨xs, hd, ht⟩, ⟨ws, he, hw⟩, ok, a, b, c⟩ := h
  have st := tupsOf_upd (o := .lst ((ls.set i z).map V.int)) hl
  refine ⟨⟨dx, by rw [upd_ne (fun q => by rw [q, hl] at ho; cases ho)]; exact ho⟩, upd_same, ⟨xs, by rw [upd_ne a.symm]; exact hd, ht.same st⟩, ⟨ws, by rw [upd_ne b.symm]; exact he, hw.same st⟩, ?_, a, b, c⟩
  obtain ⟨⟨c1, c2⟩, c3, c4, ⟨c5, c6⟩, c7⟩ := bak_parts ok
  refine bakB_mk (by rw [List.length_set]; exact c1) (by rw [List.length_set]; exact c2) (fun y hy => ?_) c4 c5 c6 (fun g' hg' => ?_)
  · rcases List.mem_or_eq_of_mem_set hy with hy | rfl
    · exact c3 y hy
    · exact hz
  · rw [List.length_set]
    exact c7 g' hg'
def setG (g : Good) (i : Nat) (d : Day) : Good := ⟨g.days.set i d, g.life⟩
theorem Led.day (h : Led C H p L D E ls g ds) {i : Nat} {t : Addr} {d : Day} {xs : List V} (hx : H D = some (.lst xs)) (ht : H t = some (.tup [.int d.want, .int d.loaf, .int d.keep, optV d.fine])) (hz : dayB (dayD d) = true) : Led C (upd H D (.lst (xs.set i (.ref t)))) p L D E ls (setG g i d) ds := by
  obtain ⟨⟨dx, ho⟩, hl, ⟨xs', hd, htk⟩, ⟨ws, he, hw⟩, ok, a, b, c⟩ := h
  rw [hd] at hx
  cases hx
  have st := tupsOf_upd (o := .lst (xs.set i (.ref t))) hd
  have hday : Tk (tupsOf H) (.ref t) (dayD d) := .tup (tupsOf_at ht) (.cons (.int _) (.cons (.int _) (.cons (.int _) (.cons (Tk.optV _) .nil))))
  refine ⟨⟨dx, by rw [upd_ne (fun q => by rw [q, hd] at ho; cases ho)]; exact ho⟩, by rw [upd_ne a]; exact hl, ⟨_, upd_same, ?_⟩, ⟨ws, by rw [upd_ne c.symm]; exact he, hw.same st⟩, ?_, a, b, c⟩
  · have := (TkAll.setAt (i := i) htk hday).same st
    show TkAll _ _ ((g.days.set i d).map dayD)
    rw [List.map_set]
    exact this
  · obtain ⟨⟨c1, c2⟩, c3, c4, ⟨c5, c6⟩, c7⟩ := bak_parts ok
    refine bakB_mk c1 c2 c3 c4 (Nat.le_refl _) (by show 1 ≤ 2; decide) (fun g' hg' => ?_)
    rw [List.mem_singleton.mp hg']
    obtain ⟨k1, k2, k3⟩ := c7 g List.mem_cons_self
    refine ⟨by show (g.days.set i d).length = _; rw [List.length_set]; exact k1, k2, fun y hy => ?_⟩
    have hy : y ∈ g.days.set i d := hy
    rcases List.mem_or_eq_of_mem_set hy with hy | rfl
    · exact k3 y hy
    · exact hz
theorem Led.push (h : Led C H p L D E ls g ds) {w : V} {d : Deed} {ws : List V} (hx : H E = some (.lst ws)) (hw : Dd H w d) : Led C (upd H E (.lst (ws ++ [w]))) p L D E ls g (ds ++ [d]) := by
  obtain ⟨⟨dx, ho⟩, hl, ⟨xs, hd, ht⟩, ⟨ws', he, hws⟩, ok, a, b, c⟩ := h
  rw [he] at hx
  cases hx
  have st := tupsOf_upd (o := .lst (ws ++ [w])) he
  exact ⟨⟨dx, by rw [upd_ne (fun q => by rw [q, he] at ho; cases ho)]; exact ho⟩, by rw [upd_ne b]; exact hl, ⟨xs, by rw [upd_ne c]; exact hd, ht.same st⟩, ⟨_, upd_same, (hws.snoc hw).same st⟩, ok, a, b, c⟩
theorem Led.pop (h : Led C H p L D E ls g (ds ++ [d])) : ∃ us v, H E = some (.lst (us ++ [v])) ∧ Dd H v d ∧ Led C (upd H E (.lst us)) p L D E ls g ds := by
  obtain ⟨⟨dx, ho⟩, hl, ⟨xs, hd, ht⟩, ⟨ws', he, hws⟩, ok, a, b, c⟩ := h
  obtain ⟨us, v, rfl, h1, h2⟩ := hws.last
  have st := tupsOf_upd (o := .lst us) he
  exact ⟨us, v, he, h2, ⟨dx, by rw [upd_ne (fun q => by rw [q, he] at ho; cases ho)]; exact ho⟩, by rw [upd_ne b]; exact hl, ⟨xs, by rw [upd_ne c]; exact hd, ht.same st⟩, ⟨_, upd_same, h1.same st⟩, ok, a, b, c⟩
end
/-! ### reading its fields, calling its methods -/
structure LTxt (K : PySem.W.Frag) (C : Addr) : Prop where
  cl : Cls K C
  nL : NoAttr K C "lights"
  nD : NoAttr K C "days"
  nF : NoAttr K C "life"
  nE : NoAttr K C "deeds"
def rFld (K : PySem.W.Frag) (f : Str) (x : V) (H : Hp) (Q : VK) : Prop := ∃ a C dx fs v, x = .ref a ∧ H a = some (.ins C dx fs) ∧ Cls K C ∧ NoAttr K C f ∧ fs.lookup f = some v ∧ Q v H
def IsObj (C : Addr) (m : Str) (x : V) (H : Hp) : Prop := ∃ a dx fs, x = .ref a ∧ H a = some (.ins C dx fs) ∧ fs.lookup m = none
section
variable {K : PySem.W.Frag} {C p L D E : Addr} {H : Hp} {ls : List Int} {g : Good} {ds : List Deed} {Q : VK}
end
/-- how a class is called -/
structure Maker (P : Program) (w : World) (K : PySem.W.Frag) (mg : Str → Option Value) (base : Heap) (x : Str) (k : Nat) (C : Addr) (sp : Sp) : Prop where
  ex : ∃ (f : Addr) (fd : FuncData) (ps : List Str), Mk K C f ∧ mg x = some (.ref C) ∧ FnOk P w K mg base CX0 k f fd ps sp ∧ Binds K fd ps []
/-- tuple.index of a text -/
def rTIx (K : PySem.W.Frag) (x : V) (xs : List V) (H : Hp) (Q : VK) : Prop := ∃ p, ∃ ys : List Str, ∃ z j, x = .ref p ∧ xs = [.str z] ∧ SqT K H p (ys.map V.str) ∧ ys[j]? = some z ∧ (∀ m, m < j → ys[m]? ≠ some z) ∧ Q (.int (j : Nat)) H
/-- the truth of any value -/
def tTru (K : PySem.W.Frag) (ta : TE) : TT := fun σ H Q => ta σ H fun x H' => ∃ k, TruV K x H' k ∧ Q k H'
end Bk

namespace Bk
open PySem PySem.Spec PyProof.Rows L2
/-! ### expressions whose data is known to the last number -/
def EL (K : PySem.W.Frag) (ds : List PyData) : Hp → V → Prop := fun H y => ∃ (a : Addr) (xs : List V), y = .ref a ∧ H a = some (.lst xs) ∧ ThAll K H xs ds
def ED (K : PySem.W.Frag) (d : PyData) : Hp → V → Prop := fun H y => Th K H y d
def EA (K : PySem.W.Frag) (ds : List PyData) : Hp → List V → Prop := fun H ys => ThAll K H ys ds
section
variable {K : PySem.W.Frag} {σ : L2.St} {H : Hp} {te ta tb : TE} {d : PyData} {ds es : List PyData}
theorem Ye.el (h : Ye (EL K ds) te σ H) : Ye (ED K (.list ds)) te σ H := h.weak fun _ _ ⟨a, xs, e, h, t⟩ => by rw [e]; exact .lst (SqL.of h) t
end
end Bk

namespace Bk
open PySem PySem.Spec PyProof.Rows L2
local macro_rules | `(tactic| walk_at "wp") => `(tactic| try simp only [tNever, tFor_eq, tLc_eq, iList, iTup, iRng1_eq, rRng1_i, iRng2_eq, rRng2_i, iEnum_eq, rEnum_r, iZip_eq, rZip_r, tSl, tPart, tNoPart, rSlL_r, rCat_r, rIn_r, gTup_r, gUnl_r, rInt1_b, rInt1_i, rRep_r, tStep_r, scal, tSeq, tNext, tAsg, tRet, tRetN, tIfS, tDrop, tCB, tCons, tNil, tVar, tOp, tUn, tC, rU_i, rI_ii, rI0_ii, rEq, rNe, tTest, tB, tAnd, tOr, tNot, tAndV, tOrV, tNotV, tIf, tChain, tLst, tTup, tBM, tBM0, rAppend_r, rIxL_r, rIxT_r, rMx_ii, rMn_ii, rLnL_r, rLnT_r, rIsD_int, rIsD_bool, rIsD_list, rIsD_tuple, tCall, gName, gNil_n, gCons_c, cxK, L2.start, List.map, List.replicate, List.length_cons, List.length_nil, List.cons_append, List.nil_append, List.append_nil, List.getElem?_cons_zero, List.getElem?_cons_succ, Option.some.injEq, exists_eq_left', exists_eq_left, V.int.injEq, V.bl.injEq, V.str.injEq, V.ref.injEq, List.cons.injEq, and_true, true_and, and_self, List.set, wipe, rAll_r, rSum_r, reduceCtorEq, decide_true, decide_false, reduceIte, ite_true, ite_false, if_true, if_false, Bool.false_eq_true, Bool.not_true, Bool.not_false])
local macro_rules | `(tactic| walk_at "shaped") => `(tactic| (simp only [SeqAt.shaped, PyData.canLay0, PyData.canLayAll0, PyData.depth, PyData.depthAll]; rfl))
local macro_rules | `(tactic| walk_at "lay") => `(tactic| (simp only [PyData.canLay0, PyData.canLayAll0]; rfl))
def top (i : Nat) : Stmt := PySem.Challenge.pw_bakeahead_k54_trees_looked_at.main.body.getD i (.Pass ⟨0, 0, 0, 0⟩)
structure Bi (mg : Str → Option Value) : Prop where
  len : mg "len" = none
  max : mg "max" = none
  min : mg "min" = none
  range : mg "range" = none
  isinstance : mg "isinstance" = none
  int : mg "int" = none
  bool : mg "bool" = none
  list : mg "list" = none
  tuple : mg "tuple" = none
  all : mg "all" = none
  sum : mg "sum" = none
  repr : mg "repr" = none
  enumerate : mg "enumerate" = none
section
variable {P : Program} {w : World} {K : PySem.W.Frag} {mg : Str → Option Value} {base : Heap}
abbrev s_is_whole : Stmt := top 6
theorem sc_is_whole : FnScope ["thing"] ["thing"] (defScope s_is_whole) := ⟨rfl, rfl, rfl, by decide +kernel, rfl, by decide +kernel, by decide +kernel⟩
def spWhole (K : PySem.W.Frag) : Sp := fun vs H Q _ => ∃ x d, vs = [x] ∧ Th K H x d ∧ Q (.bl (wholeD d)) H
theorem ok_is_whole {f : Addr} {fd : FuncData} {k : Nat} (F : Fun K "is_whole" "is_whole" s_is_whole f fd) (B : Bi mg) : FnOk P w K mg base CX0 (k + 1) f fd ["thing"] (spWhole K) := by
  refine F.ok sc_is_whole (fun vs H Q E h => ?_) (fun cdv A outer s H vs Q E hr h => ?_)
  · obtain ⟨x, d, rfl, _⟩ := h
    rfl
  · obtain ⟨x, d, rfl, hx, q⟩ := h
    refine ⟨_, (pss_one (ps_ret (pe_and (pe_callB (call_isD .int) (by rfl) B.isinstance (by decide +kernel) (pa_cons (pv 0) (pa_cons (pe_bltn (v := .ty "int") (by rfl) B.int (by decide +kernel) rfl) pa_nil))) (pe_one (pe_not (pe_callB (call_isD .bool) (by rfl) B.isinstance (by decide +kernel) (pa_cons (pv 0) (pa_cons (pe_bltn (v := .ty "bool") (by rfl) B.bool (by decide +kernel) rfl) pa_nil)))))))), ?_⟩
    walk_at "wp"
    refine ⟨d, hx, ite2 (fun h => ⟨d, hx, ?_⟩) (fun h => ?_)⟩
    · rw [← wholeD_is, h] at q
      exact q
    · rw [← wholeD_is, Bool.eq_false_iff.mpr h] at q
      exact q
abbrev s_is_number : Stmt := top 7
theorem sc_is_number : FnScope ["thing"] ["thing"] (defScope s_is_number) := ⟨rfl, rfl, rfl, by decide +kernel, rfl, by decide +kernel, by decide +kernel⟩
def spNum (K : PySem.W.Frag) : Sp := fun vs H Q _ => ∃ x d, vs = [x] ∧ Th K H x d ∧ Q (.bl (numD d)) H
theorem ok_is_number {f : Addr} {fd : FuncData} {k : Nat} (F : Fun K "is_number" "is_number" s_is_number f fd) (B : Bi mg) {t : Tok} (M_GREATEST : mg "GREATEST" = some (.int 1000000000 t)) (D_is_whole : Def P w K mg base "is_whole" (k + 1) ["thing"] (spWhole K)) :
    FnOk P w K mg base CX0 (k + 2) f fd ["thing"] (spNum K) := by
  refine F.ok sc_is_number (fun vs H Q E h => ?_) (fun cdv A outer s H vs Q E hr h => ?_)
  · obtain ⟨x, d, rfl, _⟩ := h
    rfl
  · obtain ⟨x, d, rfl, hx, q⟩ := h
    refine ⟨_, (pss_one (ps_ret (pe_and (pe_callD D_is_whole hr (by rfl) (pa_cons (pv 0) pa_nil)) (pe_one (pe_chain op_le op_le pe_int (pv 0) (pe_globI rfl M_GREATEST)))))), ?_⟩
    walk_at "wp"
    refine ⟨x, d, rfl, hx, ?_⟩
    walk_at "wp"
    cases hx with
    | int i =>
      simp only [wholeD]
      walk_at "wp"
      refine ite2 (fun h => ?_) (fun h => ?_)
      · show Q (.bl (decide (i ≤ 1000000000))) H
        simp only [numD, h, Bool.true_and] at q
        exact q
      · simp only [numD, Bool.eq_false_iff.mpr h, Bool.false_and] at q
        exact q
    | _ => exact q

abbrev s_is_tuple_of : Stmt := top 12
theorem sc_is_tuple_of : FnScope ["thing", "many"] ["thing", "many"] (defScope s_is_tuple_of) := ⟨rfl, rfl, rfl, by decide +kernel, rfl, by decide +kernel, by decide +kernel⟩
def spTupleOf (K : PySem.W.Frag) : Sp := fun vs H Q _ => ∃ x d, ∃ n : Nat, vs = [x, .int (n : Int)] ∧ Th K H x d ∧ Q (.bl (tupB n d)) H
theorem ok_is_tuple_of {f : Addr} {fd : FuncData} (F : Fun K "is_tuple_of" "is_tuple_of" s_is_tuple_of f fd) (B : Bi mg) : FnOk P w K mg base CX0 1 f fd ["thing", "many"] (spTupleOf K) := by
  refine F.ok sc_is_tuple_of (fun vs H Q E h => ?_) (fun cdv A outer s H vs Q E hr h => ?_)
  · obtain ⟨x, d, n, rfl, _⟩ := h
    rfl
  · obtain ⟨x, d, n, rfl, hx, q⟩ := h
    refine ⟨_, (pss_one (ps_ret (pe_and (pe_callB (call_isD .tuple) (by rfl) B.isinstance (by decide +kernel) (pa_cons (pv 0) (pa_cons (pe_bltn (v := .ty "tuple") (by rfl) B.tuple (by decide +kernel) rfl) pa_nil))) (pe_one (pe_cmpR op_eq (pe_callB call_lnT (by rfl) B.len (by decide +kernel) (pa_cons (pv 0) pa_nil)) (pv 1) (nomark _)))))), ?_⟩
    walk_at "wp"
    refine ⟨d, hx, ?_⟩
    cases hx with
    | tup ht ha =>
      simp only [isD]
      walk_at "wp"
      refine ⟨_, ht, qb ?_ q⟩
      rw [ha.length]
      exact decide_eq_decide.mpr (by omega)
    | _ => exact q
abbrev s_is_list_of : Stmt := top 13
theorem sc_is_list_of : FnScope ["thing", "fewest", "most"] ["thing", "fewest", "most"] (defScope s_is_list_of) := ⟨rfl, rfl, rfl, by decide +kernel, rfl, by decide +kernel, by decide +kernel⟩
def spListOf (K : PySem.W.Frag) : Sp := fun vs H Q _ => ∃ x d, ∃ n m : Nat, vs = [x, .int (n : Int), .int (m : Int)] ∧ Th K H x d ∧ Q (.bl (listB n m d)) H
theorem ok_is_list_of {f : Addr} {fd : FuncData} (F : Fun K "is_list_of" "is_list_of" s_is_list_of f fd) (B : Bi mg) : FnOk P w K mg base CX0 1 f fd ["thing", "fewest", "most"] (spListOf K) := by
  refine F.ok sc_is_list_of (fun vs H Q E h => ?_) (fun cdv A outer s H vs Q E hr h => ?_)
  · obtain ⟨x, d, n, m, rfl, _⟩ := h
    rfl
  · obtain ⟨x, d, n, m, rfl, hx, q⟩ := h
    refine ⟨_, (pss_one (ps_ret (pe_and (pe_callB (call_isD .list) (by rfl) B.isinstance (by decide +kernel) (pa_cons (pv 0) (pa_cons (pe_bltn (v := .ty "list") (by rfl) B.list (by decide +kernel) rfl) pa_nil))) (pe_one (pe_chain op_le op_le (pv 1) (pe_callB call_lnL (by rfl) B.len (by decide +kernel) (pa_cons (pv 0) pa_nil)) (pv 2)))))), ?_⟩
    walk_at "wp"
    refine ⟨d, hx, ?_⟩
    cases hx with
    | lst ht ha =>
      simp only [isD]
      walk_at "wp"
      refine ⟨_, ht, ?_⟩
      have e1 : ∀ a b : Nat, decide ((a : Int) ≤ (b : Int)) = decide (a ≤ b) := fun a b => decide_eq_decide.mpr (by omega)
      rw [ha.length, e1, e1]
      refine ite2 (fun h => qb ?_ q) (fun h => qb ?_ q)
      · simp only [listB, h, Bool.true_and]
      · simp only [listB, Bool.eq_false_iff.mpr h, Bool.false_and]
    | _ => exact q
abbrev s_are_lights : Stmt := top 15
theorem sc_are_lights : FnScope ["thing", "light"] ["thing"] (defScope s_are_lights) := ⟨rfl, rfl, rfl, by decide +kernel, rfl, by decide +kernel, by decide +kernel⟩
def spPred (K : PySem.W.Frag) (p : PyData → Bool) : Sp := fun vs H Q _ => ∃ x d, vs = [x] ∧ Th K H x d ∧ ∀ H', Same H H' → Q (.bl (p d)) H'
theorem ok_are_lights {f : Addr} {fd : FuncData} (F : Fun K "are_lights" "are_lights" s_are_lights f fd) (B : Bi mg) {t : Tok} (M_MOST_DAYS : mg "MOST_DAYS" = some (.int 40 t)) (D_is_list_of : Def P w K mg base "is_list_of" 1 ["thing", "fewest", "most"] (spListOf K)) (D_is_number : Def P w K mg base "is_number" 2 ["thing"] (spNum K)) :
    FnOk P w K mg base CX0 3 f fd ["thing"] (spPred K lightsB) := by
  refine F.ok sc_are_lights (fun vs H Q E h => ?_) (fun cdv A outer s H vs Q E hr h => ?_)
  · obtain ⟨x, d, rfl, _⟩ := h
    rfl
  · obtain ⟨x, d, rfl, hx, q⟩ := h
    refine ⟨_, (pss_one (ps_ret (pe_and (pe_callD D_is_list_of hr (by rfl) (pa_cons (pv 0) (pa_cons pe_int (pa_cons (pe_globI rfl M_MOST_DAYS) pa_nil)))) (pe_one (pe_callB (cr_all rfl) (by rfl) B.all (by decide +kernel) (pa_cons (pe_lc (own := [("light", 1)]) (g := (gName 1)) rfl sc_are_lights.nd (pi_list (pv 0)) (blkOk_by (own := [("light", 1)]) (N := ["thing", "light"]) (sc := defScope s_are_lights) (by decide +kernel)) (fun _ _ _ _ _ => (pg_name (i := 1) sc_are_lights.nd rfl (Or.inl rfl))) (fun _ _ _ _ _ => pts_nil) (fun _ _ _ _ _ => (pe_callD D_is_number hr (by rfl) (pa_cons (pv 1) pa_nil)))) pa_nil)))))), ?_⟩
    walk_at "wp"
    refine ⟨x, d, 1, 40, rfl, hx, ?_⟩
    walk_at "wp"
    cases hx with
    | lst hs ha =>
      refine ite2 (fun h => ?_) (fun h => ?_)
      · have hl := ha.length
        have h40 : _ ≤ 40 := of_decide_eq_true (Bool.and_eq_true_iff.mp h).2
        walk_at "wp"
        refine ⟨⟨_, hs⟩, fun D hD => ?_⟩
        rename_i ds
        refine LcR.map (walk_list (xs := _)) ((ds.map numD).map V.bl) hD (by rw [List.length_map, List.length_map, hl]) (by omega) (fun H s => s.seq hs) (fun _ _ _ _ y => yat_same y) (fun i x y H0 H1 hi s1 yy hy R hR => ?_) (fun H1 s1 hH => ?_)
        · obtain ⟨rfl, hx⟩ := yy
          obtain ⟨d, hd, hxd⟩ := ha.get hx
          walk_at "wp"
          refine ⟨x, d, rfl, hxd.same s1, ?_⟩
          rw [List.getElem?_map, List.getElem?_map, hd] at hy
          cases hy
          exact hR _ (Same.refl _)
        · refine ⟨ds.map numD, SqL.of hH, qb ?_ (q _ s1)⟩
          simp only [lightsB, h, Bool.true_and, List.all_map]
          rfl
      · exact qb (by simp only [lightsB, Bool.eq_false_iff.mpr h, Bool.false_and]) (q H (Same.refl _))
    | _ => exact q H (Same.refl _)
abbrev s_is_bound : Stmt := top 16
theorem sc_is_bound : FnScope ["thing"] ["thing"] (defScope s_is_bound) := ⟨rfl, rfl, rfl, by decide +kernel, rfl, by decide +kernel, by decide +kernel⟩
theorem ok_is_bound {f : Addr} {fd : FuncData} (F : Fun K "is_bound" "is_bound" s_is_bound f fd) (D_is_number : Def P w K mg base "is_number" 2 ["thing"] (spNum K)) :
    FnOk P w K mg base CX0 3 f fd ["thing"] (spPred K boundB) := by
  refine F.ok sc_is_bound (fun vs H Q E h => ?_) (fun cdv A outer s H vs Q E hr h => ?_)
  · obtain ⟨x, d, rfl, _⟩ := h
    rfl
  · obtain ⟨x, d, rfl, hx, q⟩ := h
    refine ⟨_, (pss_one (ps_ret (pe_or (pe_cmpR op_isN (pv 0) pe_non (nomark _)) (pe_one (pe_and (pe_callD D_is_number hr (by rfl) (pa_cons (pv 0) pa_nil)) (pe_one (pe_cmpR op_ge (pv 0) pe_int (nomark _)))))))), ?_⟩
    have hy := hx
    have q0 := q H (Same.refl _)
    cases hx with
    | non =>
      walk_at "wp"
      exact q0
    | int i =>
      walk_at "wp"
      refine ⟨_, _, rfl, hy, ?_⟩
      walk_at "wp"
      refine ite2 (fun h => qb ?_ q0) (fun h => qb ?_ q0)
      · simp only [boundB, h, Bool.true_and]
      · simp only [boundB, Bool.eq_false_iff.mpr h, Bool.false_and]
    | _ =>
      walk_at "wp"
      refine ⟨_, _, rfl, hy, ?_⟩
      exact ⟨_, rfl, iteF q0⟩
abbrev s_is_life : Stmt := top 17
theorem sc_is_life : FnScope ["thing"] ["thing"] (defScope s_is_life) := ⟨rfl, rfl, rfl, by decide +kernel, rfl, by decide +kernel, by decide +kernel⟩
theorem ok_is_life {f : Addr} {fd : FuncData} (F : Fun K "is_life" "is_life" s_is_life f fd) {t : Tok} (M_LONGEST_LIFE : mg "LONGEST_LIFE" = some (.int 40 t)) (D_is_whole : Def P w K mg base "is_whole" 1 ["thing"] (spWhole K)) :
    FnOk P w K mg base CX0 3 f fd ["thing"] (spPred K lifeB) := by
  refine F.ok sc_is_life (fun vs H Q E h => ?_) (fun cdv A outer s H vs Q E hr h => ?_)
  · obtain ⟨x, d, rfl, _⟩ := h
    rfl
  · obtain ⟨x, d, rfl, hx, q⟩ := h
    refine ⟨_, (pss_one (ps_ret (pe_or (pe_cmpR op_isN (pv 0) pe_non (nomark _)) (pe_one (pe_and (pe_callD D_is_whole hr (by rfl) (pa_cons (pv 0) pa_nil)) (pe_one (pe_chain op_le op_le pe_int (pv 0) (pe_globI rfl M_LONGEST_LIFE)))))))), ?_⟩
    have hy := hx
    have q0 := q H (Same.refl _)
    cases hx with
    | non =>
      walk_at "wp"
      exact q0
    | int i =>
      walk_at "wp"
      refine ⟨_, _, rfl, hy, ?_⟩
      simp only [wholeD]
      walk_at "wp"
      refine ite2 (fun h => qb ?_ q0) (fun h => qb ?_ q0)
      · simp only [lifeB, h, Bool.true_and]
      · simp only [lifeB, Bool.eq_false_iff.mpr h, Bool.false_and]
    | _ =>
      walk_at "wp"
      refine ⟨_, _, rfl, hy, ?_⟩
      exact ⟨_, rfl, iteF q0⟩
abbrev s_is_day : Stmt := top 18
theorem sc_is_day : FnScope ["thing", "want", "loaf", "keep", "fine", "part"] ["thing"] (defScope s_is_day) := ⟨rfl, rfl, rfl, by decide +kernel, rfl, by decide +kernel, by decide +kernel⟩
theorem ok_is_day {f : Addr} {fd : FuncData} (F : Fun K "is_day" "is_day" s_is_day f fd) (B : Bi mg) (D_is_tuple_of : Def P w K mg base "is_tuple_of" 1 ["thing", "many"] (spTupleOf K)) (D_is_number : Def P w K mg base "is_number" 2 ["thing"] (spNum K)) :
    FnOk P w K mg base CX0 3 f fd ["thing"] (spPred K dayB) := by
  refine F.ok sc_is_day (fun vs H Q E h => ?_) (fun cdv A outer s H vs Q E hr h => ?_)
  · obtain ⟨x, d, rfl, _⟩ := h
    rfl
  · obtain ⟨x, d, rfl, hx, q⟩ := h
    refine ⟨_, (pss_cons (ps_if (pt_not (pt_val (pe_callD D_is_tuple_of hr (by rfl) (pa_cons (pv 0) (pa_cons pe_int pa_nil))))) (pss_one (ps_ret pe_bl)) pss_nil)
 (pss_cons (ps_asg (pv 0) (pg_tup rfl (pgs_cons (pg_name (i := 1) sc_is_day.nd rfl (Or.inl rfl)) (pgs_cons (pg_name (i := 2) sc_is_day.nd rfl (Or.inl rfl)) (pgs_cons (pg_name (i := 3) sc_is_day.nd rfl (Or.inl rfl)) (pgs_cons (pg_name (i := 4) sc_is_day.nd rfl (Or.inl rfl)) pgs_nil))))))
 (pss_one (ps_ret (pe_and (pe_callB (cr_all rfl) (by rfl) B.all (by decide +kernel) (pa_cons (pe_lc (own := [("part", 5)]) (g := (gName 5)) rfl sc_is_day.nd (pi_tup (pe_tup (pa_cons (pv 1) (pa_cons (pv 2) (pa_cons (pv 3) pa_nil))))) (blkOk_by (own := [("part", 5)]) (N := ["thing", "want", "loaf", "keep", "fine", "part"]) (sc := defScope s_is_day) (by decide +kernel)) (fun _ _ _ _ _ => (pg_name (i := 5) sc_is_day.nd rfl (Or.inl rfl))) (fun _ _ _ _ _ => pts_nil) (fun _ _ _ _ _ => (pe_callD D_is_number hr (by rfl) (pa_cons (pv 5) pa_nil)))) pa_nil)) (pe_one (pe_or (pe_cmpR op_isN (pv 4) pe_non (nomark _)) (pe_one (pe_callD D_is_number hr (by rfl) (pa_cons (pv 4) pa_nil)))))))))), ?_⟩
    walk_at "wp"
    refine ⟨x, d, 4, rfl, hx, ?_⟩
    walk_at "wp"
    cases hx with
    | tup hs ha =>
      rename_i a xs ds
      refine ite2 (fun h => ?_) (fun h => ?_)
      · refine qb ?_ (q H (Same.refl _))
        have h4 : ¬ ds.length = 4 := of_decide_eq_false (Bool.eq_false_iff.mpr fun z => by rw [show tupB 4 (.tuple ds) = true from z] at h; cases h)
        symm
        match ds, h4 with
        | [], _ => rfl
        | [_], _ => rfl
        | [_, _], _ => rfl
        | [_, _, _], _ => rfl
        | [_, _, _, _], h4 => exact absurd rfl h4
        | _ :: _ :: _ :: _ :: _ :: _, _ => rfl
      · have h4 : ds.length = 4 := of_decide_eq_true (show tupB 4 (.tuple ds) = true by cases e : tupB 4 (.tuple ds) with | true => rfl | false => rw [e] at h; exact absurd rfl h)
        obtain ⟨d1, d2, d3, d4, rfl⟩ := four h4
        cases ha with
        | cons t1 ha => cases ha with
        | cons t2 ha => cases ha with
        | cons t3 ha => cases ha with
        | cons t4 ha =>
        cases ha
        rename_i v1 v2 v3 v4
        walk_at "wp"
        refine ⟨_, hs, rfl, ?_⟩
        walk_at "wp"
        refine ⟨sz100 (by decide), fun p hp => ⟨⟨_, SqT.of upd_same⟩, fun D hD => ?_⟩⟩
        have sp : Same H (upd H p (.tup [v1, v2, v3])) := same_upd hp
        have hT : SqT K (upd H p (.tup [v1, v2, v3])) p [v1, v2, v3] := SqT.of upd_same
        generalize upd H p (.tup [v1, v2, v3]) = Hb at sp hT hD ⊢
        have ta : ThAll K Hb [v1, v2, v3] [d1, d2, d3] := .cons (t1.same sp) (.cons (t2.same sp) (.cons (t3.same sp) .nil))
        refine LcR.map (walk_tup (xs := [v1, v2, v3])) (([d1, d2, d3].map numD).map V.bl) hD rfl (by show 3 ≤ 100000; decide) (fun H s => Same.tup s hT) (fun _ _ _ _ y => yat_same y) (fun i x y H0 H1 hi s1 yy hy R hR => ?_) (fun H1 s1 hH => ?_)
        · obtain ⟨rfl, hx⟩ := yy
          obtain ⟨d, hd, hxd⟩ := ta.get hx
          walk_at "wp"
          refine ⟨x, d, rfl, hxd.same s1, ?_⟩
          rw [List.getElem?_map, List.getElem?_map, hd] at hy
          cases hy
          exact hR _ (Same.refl _)
        · have q1 := q _ (sp.trans s1)
          refine ⟨[d1, d2, d3].map numD, SqL.of hH, ?_⟩
          have e3 : ([d1, d2, d3].map numD).all id = (numD d1 && numD d2 && numD d3) := by
            simp only [List.map, List.all_cons, List.all_nil, id, Bool.and_true, Bool.and_assoc]
          rw [e3]
          refine ite2 (fun h => ?_) (fun h => qb ?_ q1)
          · have t4' := t4.same (sp.trans s1)
            rw [t4'.isNon]
            refine ite2 (fun hn => qb ?_ q1) (fun hn => ⟨_, _, rfl, t4', qb ?_ q1⟩)
            · simp only [dayB, h, hn, Bool.true_or, Bool.true_and]
            · simp only [dayB, h, Bool.eq_false_iff.mpr hn, Bool.false_or, Bool.true_and]
          · simp only [dayB, Bool.eq_false_iff.mpr h, Bool.false_and]
    | _ => exact q H (Same.refl _)
abbrev s_has_bakery_form : Stmt := top 19
theorem sc_has_bakery_form : FnScope ["thing", "lights", "bound", "goods"] ["thing"] (defScope s_has_bakery_form) := ⟨rfl, rfl, rfl, by decide +kernel, rfl, by decide +kernel, by decide +kernel⟩
theorem ok_has_bakery_form {f : Addr} {fd : FuncData} (F : Fun K "has_bakery_form" "has_bakery_form" s_has_bakery_form f fd) (D_is_tuple_of : Def P w K mg base "is_tuple_of" 1 ["thing", "many"] (spTupleOf K)) (D_are_lights : Def P w K mg base "are_lights" 3 ["thing"] (spPred K lightsB))
    (D_is_bound : Def P w K mg base "is_bound" 3 ["thing"] (spPred K boundB)) (D_is_list_of : Def P w K mg base "is_list_of" 1 ["thing", "fewest", "most"] (spListOf K)) {t : Tok} (M_MOST_GOODS : mg "MOST_GOODS" = some (.int 2 t)) :
    FnOk P w K mg base CX0 4 f fd ["thing"] (spPred K bakFormB) := by
  refine F.ok sc_has_bakery_form (fun vs H Q E h => ?_) (fun cdv A outer s H vs Q E hr h => ?_)
  · obtain ⟨x, d, rfl, _⟩ := h
    rfl
  · obtain ⟨x, d, rfl, hx, q⟩ := h
    refine ⟨_, (pss_cons (ps_if (pt_not (pt_val (pe_callD D_is_tuple_of hr (by rfl) (pa_cons (pv 0) (pa_cons pe_int pa_nil))))) (pss_one (ps_ret pe_bl)) pss_nil)
 (pss_cons (ps_asg (pv 0) (pg_tup rfl (pgs_cons (pg_name (i := 1) sc_has_bakery_form.nd rfl (Or.inl rfl)) (pgs_cons (pg_name (i := 2) sc_has_bakery_form.nd rfl (Or.inl rfl)) (pgs_cons (pg_name (i := 3) sc_has_bakery_form.nd rfl (Or.inl rfl)) pgs_nil)))))
 (pss_one (ps_ret (pe_and (pe_callD D_are_lights hr (by rfl) (pa_cons (pv 1) pa_nil)) (pe_and (pe_callD D_is_bound hr (by rfl) (pa_cons (pv 2) pa_nil)) (pe_one (pe_callD D_is_list_of hr (by rfl) (pa_cons (pv 3) (pa_cons pe_int (pa_cons (pe_globI rfl M_MOST_GOODS) pa_nil))))))))))), ?_⟩
    walk_at "wp"
    refine ⟨x, d, 3, rfl, hx, ?_⟩
    walk_at "wp"
    cases hx with
    | tup hs ha =>
      rename_i a xs ds
      refine ite2 (fun h => ?_) (fun h => ?_)
      · refine qb ?_ (q H (Same.refl _))
        have h4 : ¬ ds.length = 3 := of_decide_eq_false (Bool.eq_false_iff.mpr fun z => by rw [show tupB 3 (.tuple ds) = true from z] at h; cases h)
        symm
        match ds, h4 with
        | [], _ => rfl
        | [_], _ => rfl
        | [_, _], _ => rfl
        | [_, _, _], h4 => exact absurd rfl h4
        | _ :: _ :: _ :: _ :: _, _ => rfl
      · have h4 : ds.length = 3 := of_decide_eq_true (show tupB 3 (.tuple ds) = true by cases e : tupB 3 (.tuple ds) with | true => rfl | false => rw [e] at h; exact absurd rfl h)
        obtain ⟨d1, d2, d3, rfl⟩ := three h4
        cases ha with
        | cons t1 ha => cases ha with
        | cons t2 ha => cases ha with
        | cons t3 ha =>
        cases ha
        rename_i v1 v2 v3
        walk_at "wp"
        refine ⟨_, hs, rfl, ?_⟩
        walk_at "wp"
        refine ⟨_, _, rfl, t1, fun H1 s1 => ?_⟩
        walk_at "wp"
        refine ite2 (fun h1 => ⟨_, _, rfl, t2.same s1, fun H2 s2 => ?_⟩) (fun h1 => qb ?_ (q H1 s1))
        · walk_at "wp"
          refine ite2 (fun h2 => ⟨_, _, 1, 2, rfl, t3.same (s1.trans s2), qb ?_ (q H2 (s1.trans s2))⟩) (fun h2 => qb ?_ (q H2 (s1.trans s2)))
          · simp only [bakFormB, h1, h2, Bool.true_and]
          · simp only [bakFormB, h1, Bool.eq_false_iff.mpr h2, Bool.true_and, Bool.false_and]
        · simp only [bakFormB, Bool.eq_false_iff.mpr h1, Bool.false_and]
    | _ => exact q H (Same.refl _)
abbrev s_has_good_form : Stmt := top 20
theorem sc_has_good_form : FnScope ["thing", "many", "days", "life"] ["thing", "many"] (defScope s_has_good_form) := ⟨rfl, rfl, rfl, by decide +kernel, rfl, by decide +kernel, by decide +kernel⟩
def spGoodForm (K : PySem.W.Frag) : Sp := fun vs H Q _ => ∃ x d, ∃ n : Nat, vs = [x, .int (n : Int)] ∧ Th K H x d ∧ ∀ H', Same H H' → Q (.bl (goodFormB n d)) H'
theorem ok_has_good_form {f : Addr} {fd : FuncData} (F : Fun K "has_good_form" "has_good_form" s_has_good_form f fd) (D_is_tuple_of : Def P w K mg base "is_tuple_of" 1 ["thing", "many"] (spTupleOf K)) (D_is_life : Def P w K mg base "is_life" 3 ["thing"] (spPred K lifeB))
    (D_is_list_of : Def P w K mg base "is_list_of" 1 ["thing", "fewest", "most"] (spListOf K)) :
    FnOk P w K mg base CX0 4 f fd ["thing", "many"] (spGoodForm K) := by
  refine F.ok sc_has_good_form (fun vs H Q E h => ?_) (fun cdv A outer s H vs Q E hr h => ?_)
  · obtain ⟨x, d, n, rfl, _⟩ := h
    rfl
  · obtain ⟨x, d, n, rfl, hx, q⟩ := h
    refine ⟨_, (pss_cons (ps_if (pt_not (pt_val (pe_callD D_is_tuple_of hr (by rfl) (pa_cons (pv 0) (pa_cons pe_int pa_nil))))) (pss_one (ps_ret pe_bl)) pss_nil)
 (pss_cons (ps_asg (pv 0) (pg_tup rfl (pgs_cons (pg_name (i := 2) sc_has_good_form.nd rfl (Or.inl rfl)) (pgs_cons (pg_name (i := 3) sc_has_good_form.nd rfl (Or.inl rfl)) pgs_nil))))
 (pss_one (ps_ret (pe_and (pe_callD D_is_list_of hr (by rfl) (pa_cons (pv 2) (pa_cons (pv 1) (pa_cons (pv 1) pa_nil)))) (pe_one (pe_callD D_is_life hr (by rfl) (pa_cons (pv 3) pa_nil)))))))), ?_⟩
    walk_at "wp"
    refine ⟨x, d, 2, rfl, hx, ?_⟩
    walk_at "wp"
    cases hx with
    | tup hs ha =>
      rename_i a xs ds
      refine ite2 (fun h => ?_) (fun h => ?_)
      · refine qb ?_ (q H (Same.refl _))
        have h4 : ¬ ds.length = 2 := of_decide_eq_false (Bool.eq_false_iff.mpr fun z => by rw [show tupB 2 (.tuple ds) = true from z] at h; cases h)
        symm
        match ds, h4 with
        | [], _ => rfl
        | [_], _ => rfl
        | [_, _], h4 => exact absurd rfl h4
        | _ :: _ :: _ :: _, _ => rfl
      · have h4 : ds.length = 2 := of_decide_eq_true (show tupB 2 (.tuple ds) = true by cases e : tupB 2 (.tuple ds) with | true => rfl | false => rw [e] at h; exact absurd rfl h)
        obtain ⟨d1, d2, rfl⟩ := two h4
        cases ha with
        | cons t1 ha => cases ha with
        | cons t2 ha =>
        cases ha
        rename_i v1 v2
        walk_at "wp"
        refine ⟨_, hs, rfl, ?_⟩
        walk_at "wp"
        refine ⟨_, _, n, n, rfl, t1, ?_⟩
        walk_at "wp"
        refine ite2 (fun h1 => ⟨_, _, rfl, t2, fun H2 s2 => qb ?_ (q H2 s2)⟩) (fun h1 => qb ?_ (q H (Same.refl _)))
        · simp only [goodFormB, h1, Bool.true_and]
        · simp only [goodFormB, Bool.eq_false_iff.mpr h1, Bool.false_and]
    | _ => exact q H (Same.refl _)
abbrev s_look_at_goods : Stmt := top 21
theorem sc_look_at_goods : FnScope ["goods", "many", "number", "good", "days", "life", "at", "day"] ["goods", "many"] (defScope s_look_at_goods) := ⟨rfl, rfl, rfl, by decide +kernel, rfl, by decide +kernel, by decide +kernel⟩
def spLookGoods (K : PySem.W.Frag) : Sp := fun vs H Q _ => ∃ x, ∃ n : Nat, ∃ gs, vs = [x, .int (n : Int)] ∧ Th K H x (.list gs) ∧ gs.all (goodB n) = true ∧ ∀ H', Same H H' → Q .non H'
def LgI (x : V) (n : Nat) (H : Hp) (_ : Nat) (σ : L2.St) (H' : Hp) : Prop := (∃ y2 y3 y4 y5 y6 y7, σ = [some x, some (.int (n : Int)), y2, y3, y4, y5, y6, y7]) ∧ Same H H'
def LgJ (x : V) (n : Nat) (v2 v3 v4 v5 : V) (H : Hp) (_ : Nat) (σ : L2.St) (H' : Hp) : Prop := (∃ y6 y7, σ = [some x, some (.int (n : Int)), some v2, some v3, some v4, some v5, y6, y7]) ∧ Same H H'
theorem ok_look_at_goods {f : Addr} {fd : FuncData} (F : Fun K "look_at_goods" "look_at_goods" s_look_at_goods f fd) (B : Bi mg) (D_has_good_form : Def P w K mg base "has_good_form" 4 ["thing", "many"] (spGoodForm K)) (D_is_day : Def P w K mg base "is_day" 3 ["thing"] (spPred K dayB)) :
    FnOk P w K mg base CX0 5 f fd ["goods", "many"] (spLookGoods K) := by
  refine F.ok sc_look_at_goods (fun vs H Q E h => ?_) (fun cdv A outer s H vs Q E hr h => ?_)
  · obtain ⟨x, n, gs, rfl, _⟩ := h
    rfl
  · obtain ⟨x, n, gs, rfl, hx, hg, q⟩ := h
    refine ⟨_, (pss_one (ps_for PassesOwn.never rfl (pi_enum (by rfl) B.enumerate (pa_cons (pv 0) pa_nil)) (pg_tup rfl (pgs_cons (pg_name (i := 2) sc_look_at_goods.nd rfl (Or.inl rfl)) (pgs_cons (pg_name (i := 3) sc_look_at_goods.nd rfl (Or.inl rfl)) pgs_nil))) (pss_cons (ps_if (pt_not (pt_val (pe_callD D_has_good_form hr (by rfl) (pa_cons (pv 3) (pa_cons (pv 1) pa_nil))))) (pss_one ps_never) pss_nil)
 (pss_cons (ps_asg (pv 3) (pg_tup rfl (pgs_cons (pg_name (i := 4) sc_look_at_goods.nd rfl (Or.inl rfl)) (pgs_cons (pg_name (i := 5) sc_look_at_goods.nd rfl (Or.inl rfl)) pgs_nil))))
 (pss_one (ps_for PassesOwn.never rfl (pi_enum (by rfl) B.enumerate (pa_cons (pv 4) pa_nil)) (pg_tup rfl (pgs_cons (pg_name (i := 6) sc_look_at_goods.nd rfl (Or.inl rfl)) (pgs_cons (pg_name (i := 7) sc_look_at_goods.nd rfl (Or.inl rfl)) pgs_nil))) (pss_one (ps_if (pt_not (pt_val (pe_callD D_is_day hr (by rfl) (pa_cons (pv 7) pa_nil)))) (pss_one ps_never) pss_nil)))))))), ?_⟩
    cases hx with
    | lst hs ha =>
    rename_i a xs
    walk_at "wp"
    refine ⟨_, hs, LoopR.by walk_enum (LgI (.ref a) n H) ⟨⟨_, _, _, _, _, _, rfl⟩, Same.refl _⟩ (fun i σ H' _ hI => hI.2.seq hs) (fun i v σ H0 H1 hi hI hY => ?_) (fun σ H' hI => q _ hI.2)⟩
    obtain ⟨⟨y2, y3, y4, y5, y6, y7, rfl⟩, S0⟩ := hI
    have S1 := S0.trans (ypair_same hY)
    obtain ⟨T, z1, z2, rfl, hT, rfl, e1, e2⟩ := hY
    cases e1
    have e2 : xs[i]? = some z2 := e2
    obtain ⟨d, hd, hz⟩ := ha.get e2
    have hdg : goodB n d = true := List.all_eq_true.mp hg d (List.mem_of_getElem? hd)
    obtain ⟨ds, l, rfl, hdl, hlf, hda⟩ := goodB_inv hdg
    walk_at "wp"
    refine ⟨_, SqT.of upd_same, rfl, ?_⟩
    walk_at "wp"
    refine ⟨_, _, n, rfl, hz.same S1, fun H2 S2 => ?_⟩
    rw [show goodFormB n (.tuple [.list ds, l]) = true by simp only [goodFormB, listB, hdl, hlf]; simp]
    walk_at "wp"
    have S3 := S1.trans S2
    have hz3 := hz.same S3
    cases hz3 with
    | tup ht hta =>
    rename_i b ys
    cases hta with
    | cons t1 hta => cases hta with
    | cons t2 hta =>
    cases hta
    rename_i v1 v2
    cases t1 with
    | lst hl1 hl2 =>
    rename_i c zs
    walk_at "wp"
    refine ⟨_, ht, rfl, ?_⟩
    walk_at "wp"
    refine ⟨_, hl1, LoopR.by walk_enum (LgJ (.ref a) n _ _ _ _ H2) ⟨⟨_, _, rfl⟩, Same.refl _⟩ (fun i σ H' _ hI => hI.2.seq hl1) (fun j v σ H4 H5 hj hI hY => ?_) (fun σ H' hI => ?_)⟩
    · obtain ⟨⟨y6, y7, rfl⟩, S4⟩ := hI
      have S5 := S4.trans (ypair_same hY)
      obtain ⟨T2, z3, z4, rfl, hT2, rfl, e3, e4⟩ := hY
      cases e3
      have e4 : zs[j]? = some z4 := e4
      obtain ⟨d2, hd2, hz2⟩ := hl2.get e4
      have hdd : dayB d2 = true := List.all_eq_true.mp hda d2 (List.mem_of_getElem? hd2)
      walk_at "wp"
      refine ⟨_, SqT.of upd_same, rfl, ?_⟩
      walk_at "wp"
      refine ⟨_, _, rfl, hz2.same S5, fun H6 S6 => ?_⟩
      rw [hdd]
      walk_at "wp"
      exact ⟨⟨_, _, rfl⟩, S5.trans S6⟩
    · obtain ⟨⟨y6, y7, rfl⟩, S4⟩ := hI
      exact ⟨⟨_, _, _, _, _, _, rfl⟩, S3.trans S4⟩
abbrev s_look_at_bakery : Stmt := top 22
theorem sc_look_at_bakery : FnScope ["thing", "lights", "bound", "goods"] ["thing"] (defScope s_look_at_bakery) := ⟨rfl, rfl, rfl, by decide +kernel, rfl, by decide +kernel, by decide +kernel⟩
def spLook (K : PySem.W.Frag) : Sp := fun vs H Q _ => ∃ x d, vs = [x] ∧ Th K H x d ∧ bakB d = true ∧ ∀ H', Same H H' → Q .non H'
theorem ok_look_at_bakery {f : Addr} {fd : FuncData} (F : Fun K "look_at_bakery" "look_at_bakery" s_look_at_bakery f fd) (B : Bi mg) (D_has_bakery_form : Def P w K mg base "has_bakery_form" 4 ["thing"] (spPred K bakFormB)) (D_look_at_goods : Def P w K mg base "look_at_goods" 5 ["goods", "many"] (spLookGoods K)) :
    FnOk P w K mg base CX0 6 f fd ["thing"] (spLook K) := by
  refine F.ok sc_look_at_bakery (fun vs H Q E h => ?_) (fun cdv A outer s H vs Q E hr h => ?_)
  · obtain ⟨x, d, rfl, _⟩ := h
    rfl
  · obtain ⟨x, d, rfl, hx, hb, q⟩ := h
    refine ⟨_, (pss_cons (ps_if (pt_not (pt_val (pe_callD D_has_bakery_form hr (by rfl) (pa_cons (pv 0) pa_nil)))) (pss_one ps_never) pss_nil)
 (pss_cons (ps_asg (pv 0) (pg_tup rfl (pgs_cons (pg_name (i := 1) sc_look_at_bakery.nd rfl (Or.inl rfl)) (pgs_cons (pg_name (i := 2) sc_look_at_bakery.nd rfl (Or.inl rfl)) (pgs_cons (pg_name (i := 3) sc_look_at_bakery.nd rfl (Or.inl rfl)) pgs_nil)))))
 (pss_one (ps_expr (pe_callD D_look_at_goods hr (by rfl) (pa_cons (pv 3) (pa_cons (pe_callB call_lnL (by rfl) B.len (by decide +kernel) (pa_cons (pv 1) pa_nil)) pa_nil))))))), ?_⟩
    walk_at "wp"
    refine ⟨_, _, rfl, hx, fun H1 S1 => ?_⟩
    obtain ⟨ls, b, gs, rfl, h1, h2, h3, h4⟩ := bakB_inv hb
    rw [show bakFormB (.tuple [.list ls, b, .list gs]) = true by simp only [bakFormB, h1, h2, h3, Bool.and_self]]
    walk_at "wp"
    have hx1 := hx.same S1
    cases hx1 with
    | tup ht hta =>
    cases hta with
    | cons t1 hta => cases hta with
    | cons t2 hta => cases hta with
    | cons t3 hta =>
    cases hta
    cases t1 with
    | lst hl1 hl2 =>
    walk_at "wp"
    refine ⟨_, ht, rfl, ?_⟩
    walk_at "wp"
    refine ⟨_, hl1, _, ls.length, gs, by rw [hl2.length], t3, h4, fun H2 S2 => q _ (S1.trans S2)⟩
abbrev s_is_place : Stmt := top 23
theorem sc_is_place : FnScope ["thing", "many"] ["thing", "many"] (defScope s_is_place) := ⟨rfl, rfl, rfl, by decide +kernel, rfl, by decide +kernel, by decide +kernel⟩
def spPlace (K : PySem.W.Frag) : Sp := fun vs H Q _ => ∃ i : Int, ∃ n : Nat, vs = [.int i, .int (n : Int)] ∧ Q (.bl (decide (0 ≤ i) && decide (i < (n : Int)))) H
abbrev s_keeps_of : Stmt := top 26
theorem sc_keeps_of : FnScope ["days", "first", "behind", "want", "loaf", "keep", "fine"] ["days", "first", "behind"] (defScope s_keeps_of) := ⟨rfl, rfl, rfl, by decide +kernel, rfl, by decide +kernel, by decide +kernel⟩
def spKeeps (K : PySem.W.Frag) : Sp := fun vs H Q _ => ∃ x ds, ∃ i j : Nat, vs = [x, .int (i : Int), .int (j : Int)] ∧ Th K H x (.list (ds.map dayD)) ∧ ds.length ≤ 1000 ∧ ∀ H', Same H H' → Q (.int (keepsL ds i j)) H'
theorem ok_keeps_of {f : Addr} {fd : FuncData} (F : Fun K "keeps_of" "keeps_of" s_keeps_of f fd) (B : Bi mg) : FnOk P w K mg base CX0 1 f fd ["days", "first", "behind"] (spKeeps K) := by
  refine F.ok sc_keeps_of (fun vs H Q E h => ?_) (fun cdv A outer s H vs Q E hr h => ?_)
  · obtain ⟨x, ds, i, j, rfl, _⟩ := h
    rfl
  · obtain ⟨x, ds, i, j, rfl, hx, hl, q⟩ := h
    refine ⟨_, (pss_one (ps_ret (pe_callB (cr_sum rfl) (by rfl) B.sum (by decide +kernel) (pa_cons (pe_lc (own := [("want", 3), ("loaf", 4), ("keep", 5), ("fine", 6)]) (g := (gTup K 4 (gCons (gName 3) (gCons (gName 4) (gCons (gName 5) (gCons (gName 6) gNil)))))) rfl sc_keeps_of.nd (pi_list (pe_slice sl_list (pv 0) (po_some (pv 1)) (po_some (pv 2)))) (blkOk_by (own := [("want", 3), ("loaf", 4), ("keep", 5), ("fine", 6)]) (N := ["days", "first", "behind", "want", "loaf", "keep", "fine"]) (sc := defScope s_keeps_of) (by decide +kernel)) (fun _ _ _ _ _ => (pg_tup rfl (pgs_cons (pg_name (i := 3) sc_keeps_of.nd rfl (Or.inl rfl)) (pgs_cons (pg_name (i := 4) sc_keeps_of.nd rfl (Or.inl rfl)) (pgs_cons (pg_name (i := 5) sc_keeps_of.nd rfl (Or.inl rfl)) (pgs_cons (pg_name (i := 6) sc_keeps_of.nd rfl (Or.inl rfl)) pgs_nil)))))) (fun _ _ _ _ _ => pts_nil) (fun _ _ _ _ _ => (pv 5))) pa_nil)))), ?_⟩
    cases hx with
    | lst hs ha =>
    rename_i a xs
    walk_at "wp"
    refine ⟨_, hs, fun p hp => ⟨⟨_, SqL.of upd_same⟩, fun D hD => ?_⟩⟩
    rw [cutV_nat] at hD ⊢
    have sp : Same H (upd H p (.lst ((xs.drop i).take (j - i)))) := same_upd hp
    have hL : SqL K (upd H p (.lst ((xs.drop i).take (j - i)))) p ((xs.drop i).take (j - i)) := SqL.of upd_same
    have hb := ((ha.same sp).drop i).take (j - i)
    rw [← List.map_drop, ← List.map_take] at hb
    generalize upd H p (.lst ((xs.drop i).take (j - i))) = Hb at sp hL hD hb ⊢
    generalize hcut : (ds.drop i).take (j - i) = cs at hb
    have hcl : cs.length ≤ 1000 := by
      rw [← hcut, List.length_take, List.length_drop]
      omega
    have hbl := hb.length
    rw [List.length_map] at hbl
    refine LcR.map walk_list (cs.map fun d => V.int d.keep) hD (by rw [List.length_map, hbl]) (by omega) (fun H s => s.seq hL) (fun _ _ _ _ y => yat_same y) (fun i x y H0 H1 hi s1 yy hy R hR => ?_) (fun H1 s1 hH => ?_)
    · obtain ⟨rfl, hx⟩ := yy
      obtain ⟨d, hd, hxd⟩ := hb.get hx
      rw [List.getElem?_map] at hd hy
      cases hc : cs[i]? with
      | none => rw [hc] at hd; cases hd
      | some c =>
        rw [hc] at hd hy
        cases hd
        cases hy
        obtain ⟨t, rfl, ht⟩ := (hxd.same s1).day
        walk_at "wp"
        refine ⟨_, ht, rfl, ?_⟩
        walk_at "wp"
        exact hR _ (Same.refl _)
    · refine ⟨cs.map Day.keep, SqL.of (by rw [List.map_map]; exact hH), ?_⟩
      have q1 := q _ (sp.trans s1)
      unfold keepsL at q1
      rw [hcut] at q1
      exact q1
abbrev s_fines_of : Stmt := top 27
theorem sc_fines_of : FnScope ["days", "first", "behind", "fines", "want", "loaf", "keep", "fine"] ["days", "first", "behind"] (defScope s_fines_of) := ⟨rfl, rfl, rfl, by decide +kernel, rfl, by decide +kernel, by decide +kernel⟩
def spFines (K : PySem.W.Frag) : Sp := fun vs H Q _ => ∃ x ds, ∃ i j : Nat, vs = [x, .int (i : Int), .int (j : Int)] ∧ Th K H x (.list (ds.map dayD)) ∧ ds.length ≤ 1000 ∧ ∀ H', Same H H' → Q (optV (finesL ds i j)) H'
theorem ok_fines_of {f : Addr} {fd : FuncData} (F : Fun K "fines_of" "fines_of" s_fines_of f fd) (B : Bi mg) : FnOk P w K mg base CX0 1 f fd ["days", "first", "behind"] (spFines K) := by
  refine F.ok sc_fines_of (fun vs H Q E h => ?_) (fun cdv A outer s H vs Q E hr h => ?_)
  · obtain ⟨x, ds, i, j, rfl, _⟩ := h
    rfl
  · obtain ⟨x, ds, i, j, rfl, hx, hl, q⟩ := h
    refine ⟨_, (pss_cons (ps_setLc (i := 3) (own := [("want", 4), ("loaf", 5), ("keep", 6), ("fine", 7)]) (g := (gTup K 4 (gCons (gName 4) (gCons (gName 5) (gCons (gName 6) (gCons (gName 7) gNil)))))) rfl sc_fines_of.nd rfl rfl (sw_true rfl rfl rfl (by decide +kernel)) (pi_list (pe_slice sl_list (pv 0) (po_some (pv 1)) (po_some (pv 2)))) (blkOk_by (own := [("want", 4), ("loaf", 5), ("keep", 6), ("fine", 7)]) (N := ["days", "first", "behind", "fines", "want", "loaf", "keep", "fine"]) (sc := defScope s_fines_of) (by decide +kernel)) (fun _ _ _ _ _ => (pg_tup rfl (pgs_cons (pg_name (i := 4) sc_fines_of.nd rfl (Or.inl rfl)) (pgs_cons (pg_name (i := 5) sc_fines_of.nd rfl (Or.inl rfl)) (pgs_cons (pg_name (i := 6) sc_fines_of.nd rfl (Or.inl rfl)) (pgs_cons (pg_name (i := 7) sc_fines_of.nd rfl (Or.inl rfl)) pgs_nil)))))) (fun _ _ _ _ _ => pts_nil) (fun _ _ _ _ _ => (pv 7)))
 (pss_one (ps_ret (pe_ifExp (pt_cmpR op_in_seq pe_non (pv 3) (by rfl)) pe_non (pe_callB (cr_sum rfl) (by rfl) B.sum (by decide +kernel) (pa_cons (pv 3) pa_nil)))))), ?_⟩
    cases hx with
    | lst hs ha =>
    rename_i a xs
    walk_at "wp"
    refine ⟨_, hs, fun p hp => ⟨⟨_, SqL.of upd_same⟩, fun D hD => ?_⟩⟩
    rw [cutV_nat] at hD ⊢
    have sp : Same H (upd H p (.lst ((xs.drop i).take (j - i)))) := same_upd hp
    have hL : SqL K (upd H p (.lst ((xs.drop i).take (j - i)))) p ((xs.drop i).take (j - i)) := SqL.of upd_same
    have hb := ((ha.same sp).drop i).take (j - i)
    rw [← List.map_drop, ← List.map_take] at hb
    generalize upd H p (.lst ((xs.drop i).take (j - i))) = Hb at sp hL hD hb ⊢
    generalize hcut : (ds.drop i).take (j - i) = cs at hb
    have hcl : cs.length ≤ 1000 := by
      rw [← hcut, List.length_take, List.length_drop]
      omega
    have hbl := hb.length
    rw [List.length_map] at hbl
    refine LcR.map walk_list ((cs.map Day.fine).map optV) hD (by rw [List.length_map, List.length_map, hbl]) (by omega) (fun H s => s.seq hL) (fun _ _ _ _ y => yat_same y) (fun i x y H0 H1 hi s1 yy hy R hR => ?_) (fun H1 s1 hH => ?_)
    · obtain ⟨rfl, hx⟩ := yy
      obtain ⟨d, hd, hxd⟩ := hb.get hx
      rw [List.getElem?_map] at hd hy
      rw [List.getElem?_map] at hy
      cases hc : cs[i]? with
      | none => rw [hc] at hd; cases hd
      | some c =>
        rw [hc] at hd hy
        cases hd
        cases hy
        obtain ⟨t, rfl, ht⟩ := (hxd.same s1).day
        walk_at "wp"
        refine ⟨_, ht, rfl, ?_⟩
        walk_at "wp"
        exact hR _ (Same.refl _)
    · have q1 := q _ (sp.trans s1)
      unfold finesL at q1
      rw [hcut] at q1
      refine ⟨_, .inl (SqL.of hH), rfl, flat_opts _, ite2 (fun h => ?_) (fun h => ?_)⟩
      · rw [sumO_none h] at q1
        exact q1
      · obtain ⟨ns, e1, e2⟩ := sumO_some (Bool.eq_false_iff.mpr h)
        rw [e2] at q1
        rw [e1] at hH
        exact ⟨ns, SqL.of hH, q1⟩
abbrev s_loaf_price : Stmt := top 28
theorem sc_loaf_price : FnScope ["good", "baked", "given", "days", "life", "want", "loaf", "keep", "fine", "fines"] ["good", "baked", "given"] (defScope s_loaf_price) := ⟨rfl, rfl, rfl, by decide +kernel, rfl, by decide +kernel, by decide +kernel⟩
def spLoafP (K : PySem.W.Frag) : Sp := fun vs H Q _ => ∃ x g, ∃ j k : Nat, vs = [x, .int (j : Int), .int (k : Int)] ∧ Th K H x (goodD g) ∧ g.days.length ≤ 1000 ∧ j < g.days.length ∧ ∀ H', Same H H' → Q (optV (loafP g j k)) H'
theorem ok_loaf_price {f : Addr} {fd : FuncData} (F : Fun K "loaf_price" "loaf_price" s_loaf_price f fd) (D_fines_of : Def P w K mg base "fines_of" 1 ["days", "first", "behind"] (spFines K)) (D_keeps_of : Def P w K mg base "keeps_of" 1 ["days", "first", "behind"] (spKeeps K)) : FnOk P w K mg base CX0 2 f fd ["good", "baked", "given"] (spLoafP K) := by
  refine F.ok sc_loaf_price (fun vs H Q E h => ?_) (fun cdv A outer s H vs Q E hr h => ?_)
  · obtain ⟨x, g, j, k, rfl, _⟩ := h
    rfl
  · obtain ⟨x, g, j, k, rfl, hx, hl, hj, q⟩ := h
    refine ⟨_, (pss_cons (ps_asg (pv 0) (pg_tup rfl (pgs_cons (pg_name (i := 3) sc_loaf_price.nd rfl (Or.inl rfl)) (pgs_cons (pg_name (i := 4) sc_loaf_price.nd rfl (Or.inl rfl)) pgs_nil))))
 (pss_cons (ps_asg (pe_ix ix_list (pv 3) (pv 1) (fun _ _ => rfl)) (pg_tup rfl (pgs_cons (pg_name (i := 5) sc_loaf_price.nd rfl (Or.inl rfl)) (pgs_cons (pg_name (i := 6) sc_loaf_price.nd rfl (Or.inl rfl)) (pgs_cons (pg_name (i := 7) sc_loaf_price.nd rfl (Or.inl rfl)) (pgs_cons (pg_name (i := 8) sc_loaf_price.nd rfl (Or.inl rfl)) pgs_nil))))))
 (pss_cons (ps_if (pt_cmpR op_gt (pv 1) (pv 2) (nomark _)) (pss_cons (ps_set (i := 9) sc_loaf_price.nd rfl (Or.inl rfl) (pe_callD D_fines_of hr (by rfl) (pa_cons (pv 3) (pa_cons (pv 2) (pa_cons (pv 1) pa_nil)))))
 (pss_one (ps_ret (pe_ifExp (pt_cmpR op_isN (pv 9) pe_non (nomark _)) pe_non (pe_op op_add (pv 6) (pv 9)))))) pss_nil)
 (pss_cons (ps_if (PW.pt (pw_and (pt_cmpR op_notN (pv 4) pe_non (nomark _)) (pw_and1 (pt_cmpR op_gt (pe_op op_sub (pv 2) (pv 1)) (pv 4) (nomark _))))) (pss_one (ps_ret pe_non)) pss_nil)
 (pss_one (ps_ret (pe_op op_add (pv 6) (pe_callD D_keeps_of hr (by rfl) (pa_cons (pv 3) (pa_cons (pv 1) (pa_cons (pv 2) pa_nil))))))))))), ?_⟩
    obtain ⟨t, a, xs, rfl, ht, hs, ha⟩ := hx.good
    have hd : g.days[j]? = some g.days[j] := List.getElem?_eq_getElem hj
    generalize g.days[j] = d at hd
    obtain ⟨v, hv, hvd⟩ := ha.get' (i := j) (d := dayD d) (by rw [List.getElem?_map, hd]; rfl)
    obtain ⟨t2, rfl, ht2⟩ := hvd.day
    walk_at "wp"
    refine ⟨_, ht, rfl, ?_⟩
    walk_at "wp"
    refine ⟨_, _, hs, atI_nat hv, ?_⟩
    walk_at "wp"
    refine ⟨_, ht2, rfl, ?_⟩
    walk_at "wp"
    refine ite2 (fun h => ?_) (fun h => ?_)
    · have hkj : k < j := by have := of_decide_eq_true h; omega
      refine ⟨_, g.days, k, j, rfl, .lst hs ha, hl, fun H1 s1 => ?_⟩
      have q1 := q H1 s1
      simp only [loafP, hd, hkj, if_true] at q1
      cases hf : finesL g.days k j with
      | none =>
        rw [hf] at q1
        simp only [optV]
        walk_at "wp"
        exact q1
      | some z =>
        rw [hf] at q1
        simp only [optV]
        walk_at "wp"
        exact q1
    · have hkj : ¬ k < j := by intro z; exact h (decide_eq_true (by omega))
      have q1 := fun H1 s1 => q H1 s1
      simp only [loafP, hd, hkj, if_false] at q1
      have hkeep : ∀ R : VK, (∀ H1, Same H H1 → R (.int (d.loaf + keepsL g.days j k)) H1) → spKeeps K [V.ref a, V.int (j : Int), V.int (k : Int)] H (fun y H2 => rI0 (fun i j => V.int (i + j)) (V.int d.loaf) y H2 R) E0 := fun R hR =>
        ⟨_, g.days, j, k, rfl, .lst hs ha, hl, fun H1 s1 => ⟨_, _, rfl, rfl, hR H1 s1⟩⟩
      cases hlf : g.life with
      | none =>
        simp only [hlf] at q1
        simp only [optV]
        walk_at "wp"
        exact hkeep Q q1
      | some l =>
        simp only [hlf] at q1
        simp only [optV]
        walk_at "wp"
        refine ite2 (fun h2 => ?_) (fun h2 => ?_)
        · have := q1 H (Same.refl _)
          rw [if_pos (of_decide_eq_true h2)] at this
          exact this
        · refine hkeep Q fun H1 s1 => ?_
          have := q1 H1 s1
          rw [if_neg (fun z => h2 (decide_eq_true z))] at this
          exact this
end
end Bk

namespace Bk
open PySem PySem.Spec PyProof.Rows L2
local macro_rules | `(tactic| walk_at "wp") => `(tactic| try simp only [tNever, tFor_eq, tLc_eq, iList, iTup, iRng1_eq, rRng1_i, iRng2_eq, rRng2_i, iEnum_eq, rEnum_r, iZip_eq, rZip_r, tSl, tPart, tNoPart, rSlL_r, rCat_r, rIn_r, gTup_r, gUnl_r, rInt1_b, rInt1_i, rRep_r, tStep_r, scal, tSeq, tNext, tAsg, tRet, tRetN, tIfS, tDrop, tCB, tCons, tNil, tVar, tOp, tUn, tC, rU_i, rI_ii, rI0_ii, rEq, rNe, tTest, tB, tAnd, tOr, tNot, tAndV, tOrV, tNotV, tIf, tChain, tLst, tTup, tBM, tBM0, rAppend_r, rIxL_r, rIxT_r, rMx_ii, rMn_ii, rLnL_r, rLnT_r, rIsD_int, rIsD_bool, rIsD_list, rIsD_tuple, tCall, gName, gNil_n, gCons_c, cxK, L2.start, List.map, List.replicate, List.length_cons, List.length_nil, List.cons_append, List.nil_append, List.append_nil, List.getElem?_cons_zero, List.getElem?_cons_succ, Option.some.injEq, exists_eq_left', exists_eq_left, V.int.injEq, V.bl.injEq, V.str.injEq, V.ref.injEq, List.cons.injEq, and_true, true_and, and_self, List.set, wipe, rAll_r, rSum_r, reduceCtorEq, decide_true, decide_false, reduceIte, ite_true, ite_false, if_true, if_false, Bool.false_eq_true, Bool.not_true, Bool.not_false])
local macro_rules | `(tactic| walk_at "shaped") => `(tactic| (simp only [SeqAt.shaped, PyData.canLay0, PyData.canLayAll0, PyData.depth, PyData.depthAll]; rfl))
local macro_rules | `(tactic| walk_at "lay") => `(tactic| (simp only [PyData.canLay0, PyData.canLayAll0]; rfl))
section
variable {P : Program} {w : World} {K : PySem.W.Frag} {mg : Str → Option Value} {base : Heap}
abbrev s_numbers : Stmt := top 54
theorem sc_numbers : FnScope ["_law_cell", "_law_salt", "_law_sizes", "_law_number", "_law_left", "_law_found", "_law_k", "_law_one"] ["_law_cell", "_law_salt", "_law_sizes"] (defScope s_numbers) := ⟨rfl, rfl, rfl, by decide +kernel, rfl, by decide +kernel, by decide +kernel⟩
/-- digits: one below each size -/
def Digs (zs fs : List Int) : Prop := fs.length = zs.length ∧ ∀ (i : Nat) (f z : Int), fs[i]? = some f → zs[i]? = some z → 0 ≤ f ∧ f < z
def spNumbers (K : PySem.W.Frag) : Sp := fun vs H Q _ => ∃ (c s : Int) (a : Addr) (zs : List Int), vs = [.int c, .int s, .ref a] ∧ SqL K H a (zs.map V.int) ∧ 0 ≤ s ∧ s ≤ 1000000 ∧ zs.length ≤ 1000 ∧ (∀ z ∈ zs, 0 < z ∧ z.natAbs < 2 ^ 200) ∧
  ∀ H' p fs, Same H H' → H p = none → Digs zs fs → H' p = some (.lst (fs.map V.int)) → Q (.ref p) H'
def NumI (H : Hp) (c s n : Int) (a p : Addr) (zs : List Int) (i : Nat) (σ : L2.St) (H' : Hp) : Prop := ∃ (l : Int) (fs : List Int) (y6 y7 : Option V), σ = [some (.int c), some (.int s), some (.ref a), some (.int n), some (.int l), some (.ref p), y6, y7] ∧ 0 ≤ l ∧ Same H H' ∧ H' p = some (.lst (fs.map V.int)) ∧ fs.length = i ∧
  ∀ (j : Nat) (f z : Int), fs[j]? = some f → zs[j]? = some z → 0 ≤ f ∧ f < z
theorem NumI.next {H H' : Hp} {c s n l x z : Int} {a p : Addr} {zs fs : List Int} {y6 y7 : Option V} (hp : H p = none) (hl : 0 ≤ l) (sm : Same H H') (hb : ∀ (j : Nat) (f z : Int), fs[j]? = some f → zs[j]? = some z → 0 ≤ f ∧ f < z) (g : zs[fs.length]? = some z) (h0 : 0 ≤ x) (h1 : x < z) :
    NumI H c s n a p zs (fs.length + 1) [some (.int c), some (.int s), some (.ref a), some (.int n), some (.int l), some (.ref p), y6, y7] (upd H' p (.lst (fs.map V.int ++ [.int x]))) := by
  refine ⟨l, fs ++ [x], y6, y7, rfl, hl, same_mut sm hp, by rw [upd_same, List.map_append]; rfl, by rw [List.length_append]; rfl, fun j f w e1 e2 => ?_⟩
  by_cases hj : j < fs.length
  · rw [List.getElem?_append_left hj] at e1
    exact hb j f w e1 e2
  · rw [List.getElem?_append_right (by omega)] at e1
    have ej : j - fs.length = 0 := by
      cases q : j - fs.length with
      | zero => rfl
      | succ m => rw [q] at e1; simp at e1
    have ej2 : j = fs.length := by omega
    subst ej2
    rw [ej] at e1
    have e3 : x = f := Option.some.inj e1
    have e4 : z = w := Option.some.inj (g.symm.trans e2)
    subst e3 e4
    exact ⟨h0, h1⟩
theorem ok_numbers {f : Addr} {fd : FuncData} {k : Nat} (F : Fun K "_law_numbers" "_law_numbers" s_numbers f fd) (B : Bi mg) : FnOk P w K mg base CX0 (k + 1) f fd ["_law_cell", "_law_salt", "_law_sizes"] (spNumbers K) := by
  refine F.ok sc_numbers (fun vs H Q E h => ?_) (fun cdv A outer s H vs Q E hr h => ?_)
  · obtain ⟨c, s, a, zs, rfl, _⟩ := h
    rfl
  · obtain ⟨c, s, a, zs, rfl, hS, hs0, hs1, hlen, hz, q⟩ := h
    refine ⟨_, (pss_cons (ps_set (i := 3) sc_numbers.nd rfl (Or.inl rfl) (pe_callB (call_mx rfl) (by rfl) B.max (by decide +kernel) (pa_cons (pv 0) (pa_cons (pe_op op_sub (pe_un un_neg pe_int) (pv 0)) pa_nil))))
 (pss_cons (ps_set (i := 4) sc_numbers.nd rfl (Or.inl rfl) (pv 3))
 (pss_cons (ps_set (i := 5) sc_numbers.nd rfl (Or.inl rfl) (pe_lst pa_nil))
 (pss_cons (ps_for PassesOwn.never rfl (pi_range1 (by rfl) B.range (pa_cons (pe_callB call_lnL (by rfl) B.len (by decide +kernel) (pa_cons (pv 2) pa_nil)) pa_nil)) (pg_name (i := 6) sc_numbers.nd rfl (Or.inl rfl)) (pss_one (ps_if (PW.pt (pw_and (pt_cmpR op_ge (pv 3) (pe_op op_pow pe_int pe_int) (nomark _)) (pw_and1 (pt_cmpR op_gt (pv 4) pe_int (nomark _))))) (pss_cons (ps_expr (pe_bm PySem.F.plainAttrs_list PySem.F.slot_list_append PySem.F.type_list_append mt_append (pv 5) (pa_cons (pe_op op_mod (pv 4) (pe_ix ix_list (pv 2) (pv 6) (fun _ _ => rfl))) pa_nil)))
 (pss_one (ps_set (i := 4) sc_numbers.nd rfl (Or.inl rfl) (pe_op op_fdivW (pv 4) (pe_ix ix_list (pv 2) (pv 6) (fun _ _ => rfl)))))) (pss_cons (ps_set (i := 7) sc_numbers.nd rfl (Or.inl rfl) (pe_op op_mod (pe_op op_pow (pe_op op_add (pe_op op_add (pe_op op_mod (pv 3) pe_int) (pe_op op_mul pe_int (pv 1))) pe_int) pe_int) pe_int))
 (pss_cons (ps_set (i := 7) sc_numbers.nd rfl (Or.inl rfl) (pe_op op_mod (pe_op op_mul (pe_op op_add (pv 7) (pe_op op_mul pe_int (pe_op op_add (pv 6) pe_int))) (pe_op op_add (pv 6) pe_int)) pe_int))
 (pss_cons (ps_set (i := 7) sc_numbers.nd rfl (Or.inl rfl) (pe_op op_mod (pe_op op_mul (pe_op op_mod (pe_op op_pow (pv 7) pe_int) pe_int) pe_int) pe_int))
 (pss_one (ps_expr (pe_bm PySem.F.plainAttrs_list PySem.F.slot_list_append PySem.F.type_list_append mt_append (pv 5) (pa_cons (pe_op op_mod (pe_op op_fdivW (pv 7) pe_int) (pe_ix ix_list (pv 2) (pv 6) (fun _ _ => rfl))) pa_nil))))))))))
 (pss_one (ps_ret (pv 5))))))), ?_⟩
    walk_at "wp"
    refine ⟨Nat.zero_le _, fun p hp => ?_⟩
    have hn0 : 0 ≤ (if -1 - c > c then -1 - c else c) := by split <;> omega
    generalize (if -1 - c > c then -1 - c else c) = n at hn0 ⊢
    refine ⟨_, hS.upd_ hp, by omega, by rw [List.length_map]; omega, ?_⟩
    rw [show (((zs.map V.int).length : Nat) : Int).toNat = zs.length by rw [List.length_map]; omega]
    refine LoopR.by walk_range (NumI H c s n a p zs) ⟨n, [], none, none, rfl, hn0, same_upd hp, upd_same, rfl, fun j f z e => by simp at e⟩ (fun _ _ _ _ _ => trivial) (fun i v σ H0 H' hi hI hY => ?_) (fun σ H' hI => ?_)
    · obtain ⟨l, fs, y6, y7, e, hl, sm, hf, hfl, hb⟩ := hI
      subst e
      obtain ⟨rfl, rfl⟩ := hY
      have g : zs[i]? = some zs[i] := List.getElem?_eq_getElem hi
      obtain ⟨hz0, hz1⟩ := hz _ (List.getElem_mem hi)
      generalize zs[i] = z at g hz0 hz1
      subst hfl
      have hA : SqL K H' a (zs.map V.int) := sm.seq hS
      have ga : atI (zs.map V.int) (0 + (fs.length : Int)) = some (.int z) := atI_map (by omega) (by rw [show (0 + (fs.length : Int)).toNat = fs.length by omega]; exact g)
      have sz : (fs.map V.int).length < sizeLine := sz100l (by rw [List.length_map]; omega)
      have hz9 : CDivW l z := wide_div hz0 hz1 (by decide) (by decide)
      walk_at "wp"
      refine ⟨⟨by decide, by decide, by decide⟩, ?_⟩
      have hB : ∀ o, SqL K (upd H' p o) a (zs.map V.int) := fun o => (same_mut sm hp).seq hS
      have p2 : NumI H c s n a p zs (fs.length + 1) [some (.int c), some (.int s), some (.ref a), some (.int n), some (.int (l / z)), some (.ref p), some (.int (0 + (fs.length : Int))), y7] (upd H' p (.lst (fs.map V.int ++ [.int (l % z)]))) :=
        NumI.next hp (Int.ediv_nonneg hl (by omega)) sm hb g (Int.emod_nonneg _ (by omega)) (Int.emod_lt_of_pos _ hz0)
      have p1 : ∀ (x : Int) (y7 : Option V), NumI H c s n a p zs (fs.length + 1) [some (.int c), some (.int s), some (.ref a), some (.int n), some (.int l), some (.ref p), some (.int (0 + (fs.length : Int))), y7] (upd H' p (.lst (fs.map V.int ++ [.int (x % z)]))) := fun x y7 =>
        NumI.next hp hl sm hb g (Int.emod_nonneg _ (by omega)) (Int.emod_lt_of_pos _ hz0)
      have m1 : 0 ≤ n % 2147483629 ∧ n % 2147483629 < 2147483629 := ⟨Int.emod_nonneg _ (by decide), Int.emod_lt_of_pos _ (by decide)⟩
      have m2 : ∀ x : Int, 0 ≤ x % 2147483629 ∧ x % 2147483629 < 2147483629 := fun x => ⟨Int.emod_nonneg _ (by decide), Int.emod_lt_of_pos _ (by decide)⟩
      have cp : ∀ x : Int, CPow (x % 2147483629) 5 := fun x => ⟨by decide, by decide, by have := m2 x; omega⟩
      have key : ∀ {R : Prop}, (∀ x : Int, ∃ xs v, SqL K H' a xs ∧ atI xs (0 + (fs.length : Int)) = some v ∧ R) → True := fun _ => trivial
      refine ite2 (fun _ => ite2 (fun _ => ?_) (fun _ => ?_)) (fun _ => ?_)
      · refine ⟨tyL (SqL.of hf), _, _, hA, ga, ?_⟩
        walk_at "wp"
        refine ⟨hz0, _, hf, sz, _, _, hB _, ga, ?_⟩
        walk_at "wp"
        exact ⟨hz9, p2⟩
      all_goals
        refine ⟨by decide, .inl ⟨by decide, by decide⟩, ⟨by decide, by decide, by omega⟩, by decide, .inl ⟨by decide, by decide⟩, .inr ⟨by omega, by omega⟩, by decide, cp _, by decide, .inr ⟨by decide, by decide⟩, by decide, tyL (SqL.of hf), wide_div (b := 10) (by decide) (by decide) (by decide) (by decide), _, _, hA, ga, ?_⟩
        walk_at "wp"
        exact ⟨hz0, _, hf, sz, p1 _ _⟩
    · obtain ⟨l, fs, y6, y7, e, hl, sm, hf, hfl, hb⟩ := hI
      subst e
      exact ⟨_, rfl, q H' p fs sm hp ⟨hfl, hb⟩ hf⟩
abbrev s_cell_at : Stmt := top 53
theorem sc_cell_at : FnScope ["_law_script", "_law_k"] ["_law_script", "_law_k"] (defScope s_cell_at) := ⟨rfl, rfl, rfl, by decide +kernel, rfl, by decide +kernel, by decide +kernel⟩
def spCellAt (K : PySem.W.Frag) : Sp := fun vs H Q _ => ∃ (a : Addr) (ns : List Int) (i : Nat), vs = [.ref a, .int (i : Int)] ∧ SqL K H a (ns.map V.int) ∧ ∀ c : Int, Q (.int c) H
theorem ok_cell_at {f : Addr} {fd : FuncData} (F : Fun K "_law_cell_at" "_law_cell_at" s_cell_at f fd) (B : Bi mg) : FnOk P w K mg base CX0 1 f fd ["_law_script", "_law_k"] (spCellAt K) := by
  refine F.ok sc_cell_at (fun vs H Q E h => ?_) (fun cdv A outer s H vs Q E hr h => ?_)
  · obtain ⟨a, ns, i, rfl, _⟩ := h
    rfl
  · obtain ⟨a, ns, i, rfl, hS, q⟩ := h
    refine ⟨_, (pss_cons (ps_if (pt_cmpR op_lt (pv 1) (pe_callB call_lnL (by rfl) B.len (by decide +kernel) (pa_cons (pv 0) pa_nil)) (nomark _)) (pss_one (ps_ret (pe_ix ix_list (pv 0) (pv 1) (fun _ _ => rfl)))) pss_nil)
 (pss_one (ps_ret pe_int))), ?_⟩
    walk_at "wp"
    refine ⟨_, hS, ite2 (fun h => ?_) (fun h => q _)⟩
    have hi : i < ns.length := by have := of_decide_eq_true h; rw [List.length_map] at this; omega
    exact ⟨_, _, hS, atI_map (by omega) (by rw [Int.toNat_natCast]; exact List.getElem?_eq_getElem hi), q _⟩
abbrev s_day : Stmt := top 55
theorem sc_day : FnScope ["_law_digits", "_law_late", "_law_want", "_law_light", "_law_loaf", "_law_keep", "_law_fine", "_law_none", "_law_far"] ["_law_digits", "_law_late"] (defScope s_day) := ⟨rfl, rfl, rfl, by decide +kernel, rfl, by decide +kernel, by decide +kernel⟩
def spDay (K : PySem.W.Frag) : Sp := fun vs H Q _ => ∃ (a : Addr) (fs zs : List Int) (late : Bool), vs = [.ref a, .bl late] ∧ SqL K H a (fs.map V.int) ∧ fs.length = 7 ∧ (∀ f ∈ fs, 0 ≤ f ∧ f ≤ 1000000000) ∧
  ∀ H' p t (d : Day) (l : Int), Same H H' → H p = none → H t = none → H' p = some (.tup [.int l, .ref t]) → H' t = some (.tup [.int d.want, .int d.loaf, .int d.keep, optV d.fine]) → numD (.int l) = true → dayB (dayD d) = true → Q (.ref p) H'
theorem numD_of {i : Int} (h : 0 ≤ i ∧ i ≤ 1000000000) : numD (.int i) = true := by
  simp only [numD, Bool.and_eq_true, decide_eq_true_eq]
  exact h
theorem ok_day {f : Addr} {fd : FuncData} (F : Fun K "_law_day" "_law_day" s_day f fd) : FnOk P w K mg base CX0 1 f fd ["_law_digits", "_law_late"] (spDay K) := by
  refine F.ok sc_day (fun vs H Q E h => ?_) (fun cdv A outer s H vs Q E hr h => ?_)
  · obtain ⟨a, fs, zs, late, rfl, _⟩ := h
    rfl
  · obtain ⟨a, fs, zs, late, rfl, hS, h7, hb, q⟩ := h
    refine ⟨_, (pss_cons (ps_asg (pv 0) (pg_unl rfl (pgs_cons (pg_name (i := 2) sc_day.nd rfl (Or.inl rfl)) (pgs_cons (pg_name (i := 3) sc_day.nd rfl (Or.inl rfl)) (pgs_cons (pg_name (i := 4) sc_day.nd rfl (Or.inl rfl)) (pgs_cons (pg_name (i := 5) sc_day.nd rfl (Or.inl rfl)) (pgs_cons (pg_name (i := 6) sc_day.nd rfl (Or.inl rfl)) (pgs_cons (pg_name (i := 7) sc_day.nd rfl (Or.inl rfl)) (pgs_cons (pg_name (i := 8) sc_day.nd rfl (Or.inl rfl)) pgs_nil)))))))))
 (pss_cons (ps_if (pt_cmpR op_eq (pv 7) pe_int (nomark _)) (pss_one (ps_set (i := 2) sc_day.nd rfl (Or.inl rfl) pe_int)) pss_nil)
 (pss_cons (ps_if (PW.pt (pw_or (pt_cmpR op_lt (pv 8) pe_int (nomark _)) (pw_or1 (pt_not (pt_val (pv 1)))))) (pss_one (ps_set (i := 6) sc_day.nd rfl (Or.inl rfl) pe_non)) pss_nil)
 (pss_one (ps_ret (pe_tup (pa_cons (pv 3) (pa_cons (pe_tup (pa_cons (pv 2) (pa_cons (pv 4) (pa_cons (pv 5) (pa_cons (pv 6) pa_nil))))) pa_nil)))))))), ?_⟩
    obtain ⟨w1, l1, f1, k1, n1, o1, r1, rfl⟩ := seven h7
    have b1 := hb w1 (by simp)
    have b2 := hb l1 (by simp)
    have b3 := hb f1 (by simp)
    have b4 := hb k1 (by simp)
    have b5 := hb n1 (by simp)
    have fin : ∀ (w2 : Int) (o : Option Int), (w2 = w1 ∨ w2 = 0) → (o = some n1 ∨ o = none) → ∀ p, H p = none → ∀ p2, upd H p (.tup [.int w2, .int f1, .int k1, optV o]) p2 = none → Q (.ref p2) (upd (upd H p (.tup [.int w2, .int f1, .int k1, optV o])) p2 (.tup [.int l1, .ref p])) := by
      intro w2 o hw ho p hp p2 hp2
      have s2 := same_upd (o := .tup [.int l1, .ref p]) hp2
      refine q _ p2 p ⟨w2, f1, k1, o⟩ l1 ((same_upd hp).trans s2) ((same_upd hp).free hp2) hp upd_same (s2 _ _ upd_same) (numD_of b2) ?_
      have e1 : numD (.int w2) = true := by
        rcases hw with e | e
        · rw [e]
          exact numD_of b1
        · rw [e]
          rfl
      have e2 : (noneB (optD o) || numD (optD o)) = true := by
        rcases ho with e | e
        · rw [e]
          show (false || numD (.int n1)) = true
          rw [numD_of b5]
          rfl
        · rw [e]
          rfl
      simp only [dayD, dayB, e1, e2, numD_of b3, numD_of b4, Bool.and_self]
    walk_at "wp"
    refine ⟨_, hS, rfl, ?_⟩
    walk_at "wp"
    refine ite2 (fun h1 => ite2 (fun h2 => ?_) (fun h2 => ite2 (fun h3 => ?_) (fun h3 => ?_))) (fun h1 => ite2 (fun h2 => ?_) (fun h2 => ite2 (fun h3 => ?_) (fun h3 => ?_)))
    · exact ⟨sz100 (by decide), fun p hp => ⟨sz100 (by decide), fun p2 hp2 => fin 0 none (.inr rfl) (.inr rfl) p hp p2 hp2⟩⟩
    · exact ⟨sz100 (by decide), fun p hp => ⟨sz100 (by decide), fun p2 hp2 => fin 0 none (.inr rfl) (.inr rfl) p hp p2 hp2⟩⟩
    · exact ⟨sz100 (by decide), fun p hp => ⟨sz100 (by decide), fun p2 hp2 => fin 0 (some n1) (.inr rfl) (.inl rfl) p hp p2 hp2⟩⟩
    · exact ⟨sz100 (by decide), fun p hp => ⟨sz100 (by decide), fun p2 hp2 => fin w1 none (.inl rfl) (.inr rfl) p hp p2 hp2⟩⟩
    · exact ⟨sz100 (by decide), fun p hp => ⟨sz100 (by decide), fun p2 hp2 => fin w1 none (.inl rfl) (.inr rfl) p hp p2 hp2⟩⟩
    · exact ⟨sz100 (by decide), fun p hp => ⟨sz100 (by decide), fun p2 hp2 => fin w1 (some n1) (.inl rfl) (.inl rfl) p hp p2 hp2⟩⟩
abbrev s_days : Stmt := top 56
theorem sc_days : FnScope ["_law_script", "_law_first", "_law_upto", "_law_salt", "_law_late", "_law_wide", "_law_sizes", "_law_lights", "_law_days_here", "_law_k", "_law_light", "_law_day_here"] ["_law_script", "_law_first", "_law_upto", "_law_salt", "_law_late"] (defScope s_days) := ⟨rfl, rfl, rfl, by decide +kernel, rfl, by decide +kernel, by decide +kernel⟩
def spDays (K : PySem.W.Frag) : Sp := fun vs H Q _ => ∃ (a : Addr) (ns : List Int) (u : Nat) (s : Int) (late : Bool), vs = [.ref a, .int 1, .int (u : Int), .int s, .bl late] ∧ SqL K H a (ns.map V.int) ∧ ns.length ≤ 1000 ∧ u ≤ 41 ∧ 0 ≤ s ∧ s ≤ 100000 ∧
  ∀ (H' : Hp) (p l d : Addr) (ls : List Int) (ds : List Day), Same H H' → H p = none → H' p = some (.tup [.ref l, .ref d]) → Tk (newOf H H') (.ref l) (.list (ls.map PyData.int)) → Tk (newOf H H') (.ref d) (.list (ds.map dayD)) → ls.length = nDays u ns.length → ds.length = nDays u ns.length →
    (∀ z ∈ ls, numD (.int z) = true) → (∀ z ∈ ds, dayB (dayD z) = true) → Q (.ref p) H'
structure DaysI (K : PySem.W.Frag) (H H0 : Hp) (a sz L D : Addr) (u : Nat) (s : Int) (late wide : Bool) (i : Nat) (σ : L2.St) (H' : Hp) : Prop where
  ex : ∃ (ls : List Int) (ds : List Day) (xs : List V) (y9 y10 y11 : Option V), σ = [some (.ref a), some (.int 1), some (.int (u : Int)), some (.int s), some (.bl late), some (.bl wide), some (.ref sz), some (.ref L), some (.ref D), y9, y10, y11] ∧
    Same H0 H' ∧ H' L = some (.lst (ls.map V.int)) ∧ H' D = some (.lst xs) ∧ TkAll (newBut H L D H') xs (ds.map dayD) ∧ ls.length = i ∧ ds.length = i ∧ (∀ z ∈ ls, numD (.int z) = true) ∧ (∀ z ∈ ds, dayB (dayD z) = true)
theorem ok_days {f : Addr} {fd : FuncData} (F : Fun K "_law_days" "_law_days" s_days f fd) (B : Bi mg) (D_numbers : Def P w K mg base "_law_numbers" 1 ["_law_cell", "_law_salt", "_law_sizes"] (spNumbers K)) (D_cell_at : Def P w K mg base "_law_cell_at" 1 ["_law_script", "_law_k"] (spCellAt K)) (D_day : Def P w K mg base "_law_day" 1 ["_law_digits", "_law_late"] (spDay K)) :
    FnOk P w K mg base CX0 2 f fd ["_law_script", "_law_first", "_law_upto", "_law_salt", "_law_late"] (spDays K) := by
  refine F.ok sc_days (fun vs H Q E h => ?_) (fun cdv A outer s H vs Q E hr h => ?_)
  · obtain ⟨a, ns, u, s, late, rfl, _⟩ := h
    rfl
  · obtain ⟨a, ns, u, s, late, rfl, hS, hn, hu, hs0, hs1, q⟩ := h
    refine ⟨_, (pss_cons (ps_set (i := 5) sc_days.nd rfl (Or.inl rfl) (pe_cmpR op_eq (pe_ix ix_list (pe_callD D_numbers hr (by rfl) (pa_cons (pe_callD D_cell_at hr (by rfl) (pa_cons (pv 0) (pa_cons pe_int pa_nil))) (pa_cons (pv 3) (pa_cons (pe_lst (pa_cons pe_int pa_nil)) pa_nil)))) pe_int (fun _ _ => rfl)) pe_int (nomark _)))
 (pss_cons (ps_set (i := 6) sc_days.nd rfl (Or.inl rfl) (pe_op op_cat (pe_ix ix_list (pe_lst (pa_cons (pe_lst (pa_cons pe_int (pa_cons pe_int (pa_cons pe_int (pa_cons pe_int (pa_cons pe_int pa_nil)))))) (pa_cons (pe_op op_rep (pe_lst (pa_cons (pe_op op_add (pe_op op_pow pe_int pe_int) pe_int) pa_nil)) pe_int) pa_nil))) (pe_callTy call_in1 (by rfl) B.int (by decide +kernel) (pa_cons (pv 5) pa_nil)) (fun _ _ => rfl)) (pe_lst (pa_cons pe_int (pa_cons pe_int pa_nil)))))
 (pss_cons (ps_set (i := 7) sc_days.nd rfl (Or.inl rfl) (pe_lst pa_nil))
 (pss_cons (ps_set (i := 8) sc_days.nd rfl (Or.inl rfl) (pe_lst pa_nil))
 (pss_cons (ps_for PassesOwn.never rfl (pi_range2 (by rfl) B.range (pa_cons (pv 1) (pa_cons (pe_callB (call_mx rfl) (by rfl) B.max (by decide +kernel) (pa_cons (pe_op op_add (pv 1) pe_int) (pa_cons (pe_callB (call_mn rfl) (by rfl) B.min (by decide +kernel) (pa_cons (pv 2) (pa_cons (pe_callB call_lnL (by rfl) B.len (by decide +kernel) (pa_cons (pv 0) pa_nil)) pa_nil))) pa_nil))) pa_nil))) (pg_name (i := 9) sc_days.nd rfl (Or.inl rfl)) (pss_cons (ps_asg (pe_callD D_day hr (by rfl) (pa_cons (pe_callD D_numbers hr (by rfl) (pa_cons (pe_callD D_cell_at hr (by rfl) (pa_cons (pv 0) (pa_cons (pv 9) pa_nil))) (pa_cons (pe_op op_add (pv 3) (pv 9)) (pa_cons (pv 6) pa_nil)))) (pa_cons (pv 4) pa_nil))) (pg_tup rfl (pgs_cons (pg_name (i := 10) sc_days.nd rfl (Or.inl rfl)) (pgs_cons (pg_name (i := 11) sc_days.nd rfl (Or.inl rfl)) pgs_nil))))
 (pss_cons (ps_expr (pe_bm PySem.F.plainAttrs_list PySem.F.slot_list_append PySem.F.type_list_append mt_append (pv 7) (pa_cons (pv 10) pa_nil)))
 (pss_one (ps_expr (pe_bm PySem.F.plainAttrs_list PySem.F.slot_list_append PySem.F.type_list_append mt_append (pv 8) (pa_cons (pv 11) pa_nil)))))))
 (pss_one (ps_ret (pe_tup (pa_cons (pv 7) (pa_cons (pv 8) pa_nil)))))))))), ?_⟩
    walk_at "wp"
    refine ⟨a, ns, 0, rfl, hS, fun c => ⟨sz100 (by decide), fun p1 h1 => ?_⟩⟩
    refine ⟨c, s, p1, [3], rfl, SqL.of upd_same, hs0, by omega, by decide, by decide, fun H1 pd fs S1 hpd hD hfs => ?_⟩
    have S1 := (same_upd h1).trans S1
    obtain ⟨f0, rfl⟩ : ∃ f0, fs = [f0] := by
      match fs, hD.1 with
      | [f0], _ => exact ⟨f0, rfl⟩
    walk_at "wp"
    refine ⟨_, _, SqL.of hfs, atI_nat (j := 0) rfl, ?_⟩
    walk_at "wp"
    generalize decide (f0 = 0) = wide
    refine ⟨sz100 (by decide), fun p2 h2 => ⟨⟨by decide, by decide, by decide⟩, sz100 (by decide), fun p3 h3 => ?_⟩⟩
    have S2 := same_upd (o := .lst [V.int 5, V.int 13, V.int 6, V.int 4, V.int 4]) h2
    have E2 : upd H1 p2 (.lst [V.int 5, V.int 13, V.int 6, V.int 4, V.int 4]) p2 = some (.lst ([5, 13, 6, 4, 4].map V.int)) := upd_same
    generalize upd H1 p2 (.lst [V.int 5, V.int 13, V.int 6, V.int 4, V.int 4]) = H2 at S2 E2 h3 ⊢
    have S3 := same_upd (o := .lst [V.int (10 ^ Int.toNat 9 + 1)]) h3
    have E3 : upd H2 p3 (.lst [V.int (10 ^ Int.toNat 9 + 1)]) p3 = some (.lst [V.int (10 ^ Int.toNat 9 + 1)]) := upd_same
    generalize upd H2 p3 (.lst [V.int (10 ^ Int.toNat 9 + 1)]) = H3 at S3 E3 ⊢
    refine ⟨_, E3, by decide, by decide, sz100 (by show 1 * 5 ≤ 100000; decide), fun p4 h4 => ⟨sz100 (by decide), fun p5 h5 => ?_⟩⟩
    have S4 := same_upd (o := .lst (List.replicate (Int.toNat 5) [V.int (10 ^ Int.toNat 9 + 1)]).flatten) h4
    have E4 : upd H3 p4 (.lst (List.replicate (Int.toNat 5) [V.int (10 ^ Int.toNat 9 + 1)]).flatten) p4 = some (.lst ([1000000001, 1000000001, 1000000001, 1000000001, 1000000001].map V.int)) := upd_same
    generalize upd H3 p4 (.lst (List.replicate (Int.toNat 5) [V.int (10 ^ Int.toNat 9 + 1)]).flatten) = H4 at S4 E4 h5 ⊢
    have S5 := same_upd (o := .lst [V.ref p2, V.ref p4]) h5
    have E5 : upd H4 p5 (.lst [V.ref p2, V.ref p4]) p5 = some (.lst [V.ref p2, V.ref p4]) := upd_same
    generalize upd H4 p5 (.lst [V.ref p2, V.ref p4]) = H5 at S5 E5 ⊢
    have hpick : ∃ (pz : Addr) (z5 : List Int), atI [V.ref p2, V.ref p4] (if wide = true then 1 else 0) = some (V.ref pz) ∧ H5 pz = some (.lst (z5.map V.int)) ∧ z5.length = 5 ∧ ∀ z ∈ z5, 0 < z ∧ z ≤ 1000000001 := by
      cases wide with
      | false => exact ⟨p2, _, rfl, (S3.trans (S4.trans S5)) _ _ E2, rfl, by decide⟩
      | true => exact ⟨p4, _, rfl, S5 _ _ E4, rfl, by decide⟩
    obtain ⟨pz, z5, hz1, hz2, hz3, hz4⟩ := hpick
    refine ⟨_, _, SqL.of E5, hz1, sz100 (by decide), fun p6 h6 => ?_⟩
    have S6 := same_upd (o := .lst [V.int 4, V.int 5]) h6
    have E6 : upd H5 p6 (.lst [V.int 4, V.int 5]) p6 = some (.lst [V.int 4, V.int 5]) := upd_same
    generalize upd H5 p6 (.lst [V.int 4, V.int 5]) = H6 at S6 E6 ⊢
    walk_at "wp"
    refine ⟨_, _, S6 _ _ hz2, E6, sz100 (by rw [List.length_map, hz3]; decide), fun p7 h7 => ?_⟩
    have S7 := same_upd (o := .lst (z5.map V.int ++ [V.int 4, V.int 5])) h7
    have E7 : upd H6 p7 (.lst (z5.map V.int ++ [V.int 4, V.int 5])) p7 = some (.lst ((z5 ++ [4, 5]).map V.int)) := by rw [upd_same, List.map_append]; rfl
    generalize upd H6 p7 (.lst (z5.map V.int ++ [V.int 4, V.int 5])) = H7 at S7 E7 ⊢
    have hz5 : ∀ z ∈ z5 ++ [4, 5], 0 < z ∧ z ≤ 1000000001 := by
      intro z hz
      rcases List.mem_append.mp hz with h | h
      · exact hz4 z h
      · have : z = 4 ∨ z = 5 := by simpa using h
        omega
    have hz6 : (z5 ++ [4, 5]).length = 7 := by rw [List.length_append, hz3]; rfl
    generalize z5 ++ [4, 5] = szs at E7 hz5 hz6
    have SA : Same H H7 := S1.trans (S2.trans (S3.trans (S4.trans (S5.trans (S6.trans S7)))))
    clear S1 S2 S3 S4 S5 S6 S7 E2 E3 E4 E5 E6 hz1 hz2 hz3 hz4 h1 h2 h3 h4 h5 h6 h7 hpd hfs hD
    refine ⟨Nat.zero_le _, fun L hL => ⟨Nat.zero_le _, fun D hD => ?_⟩⟩
    have hLD : L ≠ D := fun z => by rw [z, upd_same] at hD; cases hD
    have hD0 : H7 D = none := (same_upd hL).free hD
    have SB : Same H7 (upd (upd H7 L (.lst [])) D (.lst [])) := (same_upd hL).trans (same_upd hD)
    have EL : upd (upd H7 L (.lst [])) D (.lst []) L = some (.lst []) := by rw [upd_ne hLD, upd_same]
    have ED : upd (upd H7 L (.lst [])) D (.lst []) D = some (.lst []) := upd_same
    generalize upd (upd H7 L (.lst [])) D (.lst []) = H8 at SB EL ED ⊢
    refine ⟨_, (SA.trans SB).seq hS, ⟨by decide, by decide, by omega, ?_⟩, ?_⟩
    · rw [List.length_map]
      split <;> split <;> omega
    · rw [List.length_map, show ((if (if (ns.length : Int) < (u : Int) then (ns.length : Int) else (u : Int)) > 1 + 1 then (if (ns.length : Int) < (u : Int) then (ns.length : Int) else (u : Int)) else 1 + 1) - 1).toNat = nDays u ns.length by unfold nDays; split <;> split <;> omega]
      refine LoopR.by walk_range (DaysI K H H7 a p7 L D u s late wide) ⟨⟨[], [], [], none, none, none, rfl, SB, EL, ED, .nil, rfl, rfl, (by intro _ h; cases h), (by intro _ h; cases h)⟩⟩ (fun _ _ _ _ _ => trivial) (fun i v σ H0 H' hi hI hY => ?_) (fun σ H' hI => ?_)
      · obtain ⟨rfl, rfl⟩ := hY
        obtain ⟨ls, ds, xs, y9, y10, y11, rfl, S9, E9, E10, hT, hll, hdl, hlb, hdb⟩ := hI.ex
        have hi40 : (i : Int) < 41 := by unfold nDays at hi; omega
        walk_at "wp"
        refine ⟨a, ns, 1 + i, congrArg (fun z => [V.ref a, V.int z]) (by omega), (SA.trans S9).seq hS, fun c => ?_⟩
        refine ⟨c, s + (1 + (i : Int)), p7, szs, rfl, S9.seq (SqL.of E7), by omega, by omega, by omega, fun z hz => ⟨(hz5 z hz).1, ?_⟩, fun H9 pd fs T1 hpd hDg hfs => ?_⟩
        · have := hz5 z hz
          exact Nat.lt_of_le_of_lt (show z.natAbs ≤ 1000000001 by omega) (by decide)
        refine ⟨pd, fs, [], late, rfl, SqL.of hfs, hDg.1.trans hz6, fun f hf => ?_, fun HA p t d l T2 hp ht Ep Et hl hd => ?_⟩
        · obtain ⟨j, hj, e⟩ := List.getElem_of_mem hf
          have h1 : j < szs.length := by rw [← hDg.1]; exact hj
          have h2 := hDg.2 j f szs[j] (by rw [List.getElem?_eq_getElem hj, e]) (List.getElem?_eq_getElem h1)
          have h3 := hz5 _ (List.getElem_mem h1)
          omega
        have T3 := T1.trans T2
        have EL2 := T3 _ _ E9
        have ED2 := T3 _ _ E10
        walk_at "wp"
        refine ⟨_, SqT.of Ep, rfl, ?_⟩
        walk_at "wp"
        have ED3 : upd HA L (.lst (ls.map V.int ++ [V.int l])) D = some (.lst xs) := by rw [upd_ne hLD.symm]; exact ED2
        have szl : (ls.map V.int).length < sizeLine := sz100l (by rw [List.length_map, hll]; omega)
        have szd : xs.length < sizeLine := sz100l (by rw [hT.length, List.length_map, hdl]; omega)
        refine ⟨tyL (SqL.of EL2), _, EL2, szl, tyL (SqL.of ED3), _, ED3, szd, ⟨ls ++ [l], ds ++ [d], _, _, _, _, rfl, ?_, ?_, upd_same, ?_, ?_, ?_, ?_, ?_⟩⟩
        · exact same_mut (same_mut (S9.trans T3) hL) hD0
        · rw [upd_ne hLD, upd_same, List.map_append]
          rfl
        · have htL : t ≠ L := ne_of Et EL2 (by intro z; cases z)
          have htD : t ≠ D := ne_of Et ED2 (by intro z; cases z)
          have hnt : H t = none := ((SA.trans S9).trans T1).free ht
          rw [List.map_append]
          refine (hT.same (newBut_mono fun b o h1 h2 e => ?_)).append (.cons ?_ .nil)
          · rw [upd_ne h2, upd_ne h1]
            exact T3 _ _ e
          · have e : newBut H L D (upd (upd HA L (.lst (ls.map V.int ++ [V.int l]))) D (.lst (xs ++ [V.ref t]))) t = some (.tup [.int d.want, .int d.loaf, .int d.keep, optV d.fine]) := newBut_at hnt htL htD (by rw [upd_ne htD, upd_ne htL]; exact Et)
            exact .tup e (.cons (.int _) (.cons (.int _) (.cons (.int _) (.cons (Tk.optV _) .nil))))
        · rw [List.length_append, hll]
          rfl
        · rw [List.length_append, hdl]
          rfl
        · intro z hz
          rcases List.mem_append.mp hz with h | h
          · exact hlb z h
          · rw [List.mem_singleton.mp h]
            exact hl
        · intro z hz
          rcases List.mem_append.mp hz with h | h
          · exact hdb z h
          · rw [List.mem_singleton.mp h]
            exact hd
      · obtain ⟨ls, ds, xs, y9, y10, y11, rfl, S9, E9, E10, hT, hll, hdl, hlb, hdb⟩ := hI.ex
        walk_at "wp"
        refine ⟨sz100 (by decide), fun p hp => ?_⟩
        have SP := same_upd (o := .tup [V.ref L, V.ref D]) hp
        have hL0 : H L = none := SA.free hL
        have hDn : H D = none := SA.free hD0
        refine q _ p L D ls ds ((SA.trans S9).trans SP) ((SA.trans S9).free hp) upd_same ?_ ?_ hll hdl hlb hdb
        · exact .lst (newOf_at hL0 (SP _ _ E9)) (TkAll.ints ls)
        · exact .lst (newOf_at hDn (SP _ _ E10)) (hT.same ((newBut_same _ _ _ _).trans (newOf_mono SP)))
abbrev s_two : Stmt := top 57
theorem sc_two : FnScope ["_law_script", "_law_upto", "_law_salt", "_law_head", "_law_lights", "_law_days_here", "_law_lives", "_law_goods", "_law_others"] ["_law_script", "_law_upto", "_law_salt"] (defScope s_two) := ⟨rfl, rfl, rfl, by decide +kernel, rfl, by decide +kernel, by decide +kernel⟩
def spTwo (K : PySem.W.Frag) : Sp := fun vs H Q _ => ∃ (a : Addr) (ns : List Int) (u : Nat) (s : Int), vs = [.ref a, .int (u : Int), .int s] ∧ SqL K H a (ns.map V.int) ∧ ns.length ≤ 63 ∧ u ≤ 41 ∧ 0 ≤ s ∧ s ≤ 10000 ∧
  ∀ (H' : Hp) (x : V) (b : Bak), Same H H' → Tk (newOf H H') x (bakD b) → bakB (bakD b) = true → b.lights.length = nDays u ns.length → Q x H'
def livesO : List (Option Int) := [none, none, some 0, some 1, some 2, some 3, some 4, some 5, some 7, some 11, some 23, some 40]
theorem lives_at {i : Int} (h0 : 0 ≤ i) (h1 : i < 12) : ∃ o, atI (livesO.map optV) i = some (optV o) ∧ lifeB (optD o) = true := by
  have hi : i.toNat < livesO.length := by
    show i.toNat < 12
    omega
  refine ⟨livesO[i.toNat], atI_of h0 (by rw [List.getElem?_map, List.getElem?_eq_getElem hi]; rfl), ?_⟩
  have : ∀ o ∈ livesO, lifeB (optD o) = true := by decide
  exact this _ (List.getElem_mem hi)
def boundsO : List (Option Int) := [none, some 1, some 2, some 3, some 4, some 5, some 6, some 1000000000, some 12]
theorem bounds_at {i : Int} (h0 : 0 ≤ i) (h1 : i < 9) : ∃ o, atI (boundsO.map optV) i = some (optV o) ∧ boundB (optD o) = true := by
  have hi : i.toNat < boundsO.length := by
    show i.toNat < 9
    omega
  refine ⟨boundsO[i.toNat], atI_of h0 (by rw [List.getElem?_map, List.getElem?_eq_getElem hi]; rfl), ?_⟩
  have : ∀ o ∈ boundsO, boundB (optD o) = true := by decide
  exact this _ (List.getElem_mem hi)
theorem ok_two {f : Addr} {fd : FuncData} (F : Fun K "_law_two" "_law_two" s_two f fd) (D_numbers : Def P w K mg base "_law_numbers" 1 ["_law_cell", "_law_salt", "_law_sizes"] (spNumbers K)) (D_cell_at : Def P w K mg base "_law_cell_at" 1 ["_law_script", "_law_k"] (spCellAt K)) (D_days : Def P w K mg base "_law_days" 2 ["_law_script", "_law_first", "_law_upto", "_law_salt", "_law_late"] (spDays K)) :
    FnOk P w K mg base CX0 3 f fd ["_law_script", "_law_upto", "_law_salt"] (spTwo K) := by
  refine F.ok sc_two (fun vs H Q E h => ?_) (fun cdv A outer s H vs Q E hr h => ?_)
  · obtain ⟨a, ns, u, s, rfl, _⟩ := h
    rfl
  · obtain ⟨a, ns, u, s, rfl, hS, hn, hu, hs0, hs1, q⟩ := h
    refine ⟨_, (pss_cons (ps_set (i := 3) sc_two.nd rfl (Or.inl rfl) (pe_callD D_numbers hr (by rfl) (pa_cons (pe_callD D_cell_at hr (by rfl) (pa_cons (pv 0) (pa_cons pe_int pa_nil))) (pa_cons (pv 2) (pa_cons (pe_lst (pa_cons pe_int (pa_cons pe_int (pa_cons pe_int (pa_cons pe_int (pa_cons pe_int (pa_cons pe_int (pa_cons pe_int pa_nil)))))))) pa_nil)))))
 (pss_cons (ps_asg (pe_callD D_days hr (by rfl) (pa_cons (pv 0) (pa_cons pe_int (pa_cons (pv 1) (pa_cons (pv 2) (pa_cons (pe_cmpR op_eq (pe_ix ix_list (pv 3) pe_int (fun _ _ => rfl)) pe_int (nomark _)) pa_nil)))))) (pg_tup rfl (pgs_cons (pg_name (i := 4) sc_two.nd rfl (Or.inl rfl)) (pgs_cons (pg_name (i := 5) sc_two.nd rfl (Or.inl rfl)) pgs_nil))))
 (pss_cons (ps_set (i := 6) sc_two.nd rfl (Or.inl rfl) (pe_lst (pa_cons pe_non (pa_cons pe_non (pa_cons pe_int (pa_cons pe_int (pa_cons pe_int (pa_cons pe_int (pa_cons pe_int (pa_cons pe_int (pa_cons pe_int (pa_cons pe_int (pa_cons pe_int (pa_cons pe_int pa_nil))))))))))))))
 (pss_cons (ps_set (i := 7) sc_two.nd rfl (Or.inl rfl) (pe_lst (pa_cons (pe_tup (pa_cons (pv 5) (pa_cons (pe_ix ix_list (pv 6) (pe_ix ix_list (pv 3) pe_int (fun _ _ => rfl)) (fun _ _ => rfl)) pa_nil))) pa_nil)))
 (pss_cons (ps_if (pt_cmpR op_gt (pe_ix ix_list (pv 3) pe_int (fun _ _ => rfl)) pe_int (nomark _)) (pss_cons (ps_set (i := 8) sc_two.nd rfl (Or.inl rfl) (pe_ix ix_tup (pe_callD D_days hr (by rfl) (pa_cons (pe_op op_cat (pe_slice sl_list (pv 0) po_none (po_some pe_int)) (pe_step (pv 0) po_none (po_some pe_int) (po_some (pe_un un_neg pe_int)))) (pa_cons pe_int (pa_cons (pv 1) (pa_cons (pe_op op_add (pv 2) pe_int) (pa_cons (pe_cmpR op_eq (pe_ix ix_list (pv 3) pe_int (fun _ _ => rfl)) pe_int (nomark _)) pa_nil)))))) pe_int (fun _ _ => rfl)))
 (pss_one (ps_expr (pe_bm PySem.F.plainAttrs_list PySem.F.slot_list_append PySem.F.type_list_append mt_append (pv 7) (pa_cons (pe_tup (pa_cons (pv 8) (pa_cons (pe_ix ix_list (pv 6) (pe_ix ix_list (pv 3) pe_int (fun _ _ => rfl)) (fun _ _ => rfl)) pa_nil))) pa_nil))))) pss_nil)
 (pss_one (ps_ret (pe_tup (pa_cons (pv 4) (pa_cons (pe_ix ix_list (pe_lst (pa_cons pe_non (pa_cons pe_int (pa_cons pe_int (pa_cons pe_int (pa_cons pe_int (pa_cons pe_int (pa_cons pe_int (pa_cons (pe_op op_pow pe_int pe_int) (pa_cons pe_int pa_nil)))))))))) (pe_ix ix_list (pv 3) pe_int (fun _ _ => rfl)) (fun _ _ => rfl)) (pa_cons (pv 7) pa_nil))))))))))), ?_⟩
    walk_at "wp"
    refine ⟨a, ns, 0, rfl, hS, fun c => ⟨sz100 (by decide), fun p1 h1 => ?_⟩⟩
    refine ⟨c, s, p1, [3, 12, 2, 12, 3, 2, 9], rfl, SqL.of upd_same, hs0, by omega, by decide, by decide, fun H1 pd fs S1 hpd hD hfs => ?_⟩
    have S1 := (same_upd h1).trans S1
    obtain ⟨f0, f1, f2, f3, f4, f5, f6, rfl⟩ := seven hD.1
    have b1 := hD.2 1 f1 _ rfl rfl
    have b3 := hD.2 3 f3 _ rfl rfl
    have b6 := hD.2 6 f6 _ rfl rfl
    have hF : SqL K H1 pd [V.int f0, V.int f1, V.int f2, V.int f3, V.int f4, V.int f5, V.int f6] := SqL.of hfs
    clear hD h1 hpd hfs
    walk_at "wp"
    refine ⟨_, _, hF, atI_nat (j := 2) rfl, ?_⟩
    walk_at "wp"
    refine ⟨a, ns, u, s, decide (f2 = 1), rfl, S1.seq hS, by omega, hu, hs0, by omega, fun H2 p l d ls ds S2 hp Ep hl hd hll hdl hlb hdb => ?_⟩
    walk_at "wp"
    refine ⟨_, SqT.of Ep, rfl, ?_⟩
    walk_at "wp"
    have hF2 := S2.seq hF
    have hnd : 1 ≤ nDays u ns.length ∧ nDays u ns.length ≤ 40 := by unfold nDays; omega
    have fin : ∀ (HX : Hp) (g : Addr) (ts : List V) (gs : List Good), Same H2 HX → H g = none → HX g = some (.lst ts) → TkAll (newOf H HX) ts (gs.map goodD) → 1 ≤ gs.length → gs.length ≤ 2 →
        (∀ g ∈ gs, g.days.length = ls.length ∧ lifeB (optD g.life) = true ∧ ∀ d ∈ g.days, dayB (dayD d) = true) →
        (CPow 10 9 ∧ 0 + 1 + 1 + 1 + 1 + 1 + 1 + 1 + 1 + 1 ≤ sizeLine ∧ ∀ (p : Addr), HX p = none → ∃ xs v, SqL K (upd HX p (HO.lst [V.non, V.int 1, V.int 2, V.int 3, V.int 4, V.int 5, V.int 6, V.int (10 ^ Int.toNat 9), V.int 12])) pd xs ∧ atI xs 6 = some v ∧
          rIxL K (V.ref p) v (upd HX p (HO.lst [V.non, V.int 1, V.int 2, V.int 3, V.int 4, V.int 5, V.int 6, V.int (10 ^ Int.toNat 9), V.int 12])) fun x H1 => 0 + 1 + 1 + 1 ≤ sizeLine ∧ ∀ (p : Addr), H1 p = none → Q (V.ref p) (upd H1 p (HO.tup [V.ref l, x, V.ref g]))) := by
      intro HX g ts gs T1 hg Eg hT hg1 hg2 hgs
      refine ⟨⟨by decide, by decide, by decide⟩, sz100 (by decide), fun pp hpp => ?_⟩
      have T2 := same_upd (o := .lst (boundsO.map optV)) hpp
      have E2 : upd HX pp (.lst (boundsO.map optV)) pp = some (.lst (boundsO.map optV)) := upd_same
      show ∃ xs v, SqL K (upd HX pp (.lst (boundsO.map optV))) pd xs ∧ atI xs 6 = some v ∧ rIxL K (V.ref pp) v (upd HX pp (.lst (boundsO.map optV))) fun x H1 => 0 + 1 + 1 + 1 ≤ sizeLine ∧ ∀ (p : Addr), H1 p = none → Q (V.ref p) (upd H1 p (HO.tup [V.ref l, x, V.ref g]))
      generalize upd HX pp (.lst (boundsO.map optV)) = HY at T2 E2 ⊢
      refine ⟨_, _, (T1.trans T2).seq hF2, atI_nat (j := 6) rfl, ?_⟩
      obtain ⟨o, ho, hob⟩ := bounds_at b6.1 b6.2
      refine ⟨pp, _, f6, _, rfl, rfl, SqL.of E2, ho, sz100 (by decide), fun pf hpf => ?_⟩
      have T3 := same_upd (o := .tup [V.ref l, optV o, V.ref g]) hpf
      have E3 : upd HY pf (.tup [V.ref l, optV o, V.ref g]) pf = some (.tup [V.ref l, optV o, V.ref g]) := upd_same
      generalize upd HY pf (.tup [V.ref l, optV o, V.ref g]) = HF at T3 E3 ⊢
      have T4 := T2.trans T3
      have T5 : Same H HF := (S1.trans S2).trans (T1.trans T4)
      refine q HF (.ref pf) ⟨ls, o, gs⟩ T5 ?_ (bakB_mk (by show 1 ≤ ls.length; omega) (by show ls.length ≤ 40; omega) hlb hob hg1 hg2 hgs) hll
      have hf0 : H pf = none := ((S1.trans S2).trans (T1.trans T2)).free hpf
      exact .tup (newOf_at hf0 E3) (.cons (hl.same (newOf_to S1 fun b o _ e => (T1.trans T4) b o e)) (.cons (Tk.optV o) (.cons (.lst (newOf_at hg (T4 _ _ Eg)) (hT.same (newOf_mono T4))) .nil)))
    refine ⟨sz100 (by decide), fun p3 h3 => ?_⟩
    have S3 := same_upd (o := .lst (livesO.map optV)) h3
    have E3 : upd H2 p3 (.lst (livesO.map optV)) p3 = some (.lst (livesO.map optV)) := upd_same
    change ∃ xs v, SqL K (upd H2 p3 (.lst (livesO.map optV))) pd xs ∧ atI xs 1 = some v ∧ rIxL K (V.ref p3) v (upd H2 p3 (.lst (livesO.map optV))) _
    generalize upd H2 p3 (.lst (livesO.map optV)) = H3 at S3 E3 ⊢
    refine ⟨_, _, S3.seq hF2, atI_nat (j := 1) rfl, ?_⟩
    obtain ⟨o1, ho1, hob1⟩ := lives_at b1.1 b1.2
    refine ⟨p3, _, f1, _, rfl, rfl, SqL.of E3, ho1, sz100 (by decide), fun t1 ht1 => ⟨sz100 (by decide), fun g hg => ?_⟩⟩
    have S4 := same_upd (o := .tup [V.ref d, optV o1]) ht1
    have E4 : upd H3 t1 (.tup [V.ref d, optV o1]) t1 = some (.tup [V.ref d, optV o1]) := upd_same
    generalize upd H3 t1 (.tup [V.ref d, optV o1]) = H4 at S4 E4 hg ⊢
    have S5 := same_upd (o := .lst [V.ref t1]) hg
    have E5 : upd H4 g (.lst [V.ref t1]) g = some (.lst [V.ref t1]) := upd_same
    have N5 : ∀ b, b ≠ g → upd H4 g (.lst [V.ref t1]) b = H4 b := fun b hb => upd_ne hb
    generalize upd H4 g (.lst [V.ref t1]) = H5 at S5 E5 N5 ⊢
    have S25 := S3.trans (S4.trans S5)
    have S05 := (S1.trans S2).trans S25
    have hg0 : H g = none := ((S1.trans S2).trans (S3.trans S4)).free hg
    have ht0 : H t1 = none := ((S1.trans S2).trans S3).free ht1
    have htg : t1 ≠ g := ne_of_none E4 hg
    have hd4 : Tk (newOf H H4) (.ref d) (.list (ds.map dayD)) := hd.same (newOf_to S1 fun b o _ e => (S3.trans S4) b o e)
    have hgood1 : Tk (newOf H H4) (.ref t1) (goodD ⟨ds, o1⟩) := .tup (newOf_at ht0 E4) (.cons hd4 (.cons (Tk.optV o1) .nil))
    have hc1 : ds.length = ls.length ∧ lifeB (optD o1) = true ∧ ∀ d ∈ ds, dayB (dayD d) = true := ⟨hdl.trans hll.symm, hob1, hdb⟩
    refine ⟨_, _, S25.seq hF2, atI_nat (j := 4) rfl, ?_⟩
    walk_at "wp"
    refine ite2 (fun _ => ?_) (fun _ => fin H5 g [V.ref t1] [⟨ds, o1⟩] S25 hg0 E5 (.cons (hgood1.same (newOf_mono S5)) .nil) (by show 1 ≤ 1; decide) (by show 1 ≤ 2; decide) (by intro z hz; rw [List.mem_singleton.mp hz]; exact hc1))
    refine ⟨_, S05.seq hS, fun p4 h4 => ?_⟩
    have S6 := same_upd (o := .lst (cutV (ns.map V.int) none (some 1))) h4
    have E6 : upd H5 p4 (.lst (cutV (ns.map V.int) none (some 1))) p4 = some (.lst (cutV (ns.map V.int) none (some 1))) := upd_same
    generalize upd H5 p4 (.lst (cutV (ns.map V.int) none (some 1))) = H6 at S6 E6 ⊢
    refine ⟨a, _, rfl, (S05.trans S6).seq hS, by decide, fun p5 h5 => ?_⟩
    have S7 := same_upd (o := .lst (stepV (ns.map V.int) none (some 0) (some (-1)))) h5
    have E7 : upd H6 p5 (.lst (stepV (ns.map V.int) none (some 0) (some (-1)))) p5 = some (.lst (stepV (ns.map V.int) none (some 0) (some (-1)))) := upd_same
    generalize upd H6 p5 (.lst (stepV (ns.map V.int) none (some 0) (some (-1)))) = H7 at S7 E7 ⊢
    have hlen2 : (cutV (ns.map V.int) none (some 1) ++ stepV (ns.map V.int) none (some 0) (some (-1))).length = ns.length := by
      rw [List.length_append, stepV_back, show (1 : Int) = ((1 : Nat) : Int) from rfl, cutV_upto, List.length_take, List.length_map]
      omega
    refine ⟨_, _, S7 _ _ E6, E7, sz100 (by rw [← List.length_append, hlen2]; omega), fun p6 h6 => ?_⟩
    obtain ⟨ms, hms⟩ : ∃ ms : List Int, cutV (ns.map V.int) none (some 1) ++ stepV (ns.map V.int) none (some 0) (some (-1)) = ms.map V.int := ints_of fun x hx => by
      have hm : x ∈ ns.map V.int := by
        rcases List.mem_append.mp hx with h | h
        · exact cutV_mem h
        · exact stepV_mem h
      obtain ⟨c, _, e⟩ := List.mem_map.mp hm
      exact ⟨c, e.symm⟩
    rw [hms] at hlen2 ⊢
    rw [List.length_map] at hlen2
    have S8 := same_upd (o := .lst (ms.map V.int)) h6
    have E8 : upd H7 p6 (.lst (ms.map V.int)) p6 = some (.lst (ms.map V.int)) := upd_same
    generalize upd H7 p6 (.lst (ms.map V.int)) = H8 at S8 E8 ⊢
    have S58 := S6.trans (S7.trans S8)
    have S28 := S25.trans S58
    refine ⟨_, _, S28.seq hF2, atI_nat (j := 5) rfl, ?_⟩
    walk_at "wp"
    refine ⟨p6, ms, u, s + 70, decide (f5 = 1), rfl, SqL.of E8, by omega, hu, by omega, by omega, fun H9 p' l' d' ls' ds' S9 hp' Ep' hl' hd' hll' hdl' hlb' hdb' => ?_⟩
    walk_at "wp"
    have S29 := S28.trans S9
    refine ⟨_, _, SqT.of Ep', atI_nat (j := 1) rfl, tyL (SqL.of ((S58.trans S9) _ _ E5)), _, _, S29.seq hF2, atI_nat (j := 3) rfl, ?_⟩
    obtain ⟨o3, ho3, hob3⟩ := lives_at b3.1 b3.2
    walk_at "wp"
    refine ⟨_, _, ((S4.trans S5).trans (S58.trans S9)).seq (SqL.of E3), ho3, sz100 (by decide), fun t2 ht2 => ?_⟩
    have S10 := same_upd (o := .tup [V.ref d', optV o3]) ht2
    have E10 : upd H9 t2 (.tup [V.ref d', optV o3]) t2 = some (.tup [V.ref d', optV o3]) := upd_same
    generalize upd H9 t2 (.tup [V.ref d', optV o3]) = H10 at S10 E10 ⊢
    have S5x := (S58.trans S9).trans S10
    refine ⟨_, S5x _ _ E5, sz100l (by show 1 < 100000; decide), ?_⟩
    have ht2g : t2 ≠ g := fun z => by
      have e := (S58.trans S9) _ _ E5
      rw [z] at ht2
      rw [ht2] at e
      cases e
    have hg2 : H2 g = none := (S3.trans S4).free hg
    have hg4 : H4 g = none := hg
    refine fin (upd H10 g (.lst ([V.ref t1] ++ [V.ref t2]))) g [V.ref t1, V.ref t2] [⟨ds, o1⟩, ⟨ds', o3⟩] (same_mut (S29.trans S10) hg2) hg0 upd_same (.cons ?_ (.cons ?_ .nil)) (by show 1 ≤ 2; decide) (by show 2 ≤ 2; decide) ?_
    · exact hgood1.same (newOf_mono (same_mut (S5.trans S5x) hg4))
    · have hdx : Tk (newOf H (upd H10 g (.lst ([V.ref t1] ++ [V.ref t2])))) (.ref d') (.list (ds'.map dayD)) := hd'.same (newOf_to (S05.trans S58) fun b o hb e => by
        have hbg : b ≠ g := fun z => by
          have e5 := S58 _ _ E5
          rw [z, e5] at hb
          cases hb
        rw [upd_ne hbg]
        exact S10 _ _ e)
      have ht20 : H t2 = none := ((S05.trans S58).trans S9).free ht2
      exact .tup (newOf_at ht20 (by rw [upd_ne ht2g]; exact E10)) (.cons hdx (.cons (Tk.optV o3) .nil))
    · intro z hz
      rcases List.mem_cons.mp hz with e | e
      · rw [e]
        exact hc1
      · rw [List.mem_singleton.mp e]
        exact ⟨by rw [hdl', hlen2, hll], hob3, hdb'⟩
end
end Bk

namespace Bk
open PySem PySem.Spec PyProof.Rows L2
local macro_rules | `(tactic| walk_at "wp") => `(tactic| try simp only [Int.zero_add, tNever, tFor_eq, tLc_eq, iList, iTup, iRng1_eq, rRng1_i, iRng2_eq, rRng2_i, iEnum_eq, rEnum_r, iZip_eq, rZip_r, tSl, tPart, tNoPart, rSlL_r, rCat_r, rIn_r, rNin_r, rRepr_r, rRg1_i, rRg2_i, rInr_r, tAug, ipI_ii, tLstRg, tRg1, tRg2, gTup_r, gUnl_r, rInt1_b, rInt1_i, rRep_r, tStep_r, scal, tSeq, tNext, tAsg, tRet, tRetN, tIfS, tDrop, tCB, tCons, tNil, tVar, tOp, tUn, tC, rU_i, rI_ii, rI0_ii, rEq, rNe, tTest, tB, tAnd, tOr, tNot, tAndV, tOrV, tNotV, tIf, tChain, tLst, tTup, tBM, tBM0, rAppend_r, rIxL_r, rIxT_r, rMx_ii, rMn_ii, rLnL_r, rLnT_r, rIsD_int, rIsD_bool, rIsD_list, rIsD_tuple, tCall, gName, gNil_n, gCons_c, cxK, L2.start, List.map, List.replicate, List.length_cons, List.length_nil, List.cons_append, List.nil_append, List.append_nil, List.getElem?_cons_zero, List.getElem?_cons_succ, Option.some.injEq, exists_eq_left', exists_eq_left, V.int.injEq, V.bl.injEq, V.str.injEq, V.ref.injEq, List.cons.injEq, and_true, true_and, and_self, List.set, wipe, rAll_r, rSum_r, reduceCtorEq, decide_true, decide_false, reduceIte, ite_true, ite_false, if_true, if_false, Bool.false_eq_true, Bool.not_true, Bool.not_false])
local macro_rules | `(tactic| walk_at "shaped") => `(tactic| (simp only [SeqAt.shaped, PyData.canLay0, PyData.canLayAll0, PyData.depth, PyData.depthAll]; rfl))
local macro_rules | `(tactic| walk_at "lay") => `(tactic| (simp only [PyData.canLay0, PyData.canLayAll0]; rfl))
section
variable {P : Program} {w : World} {K : PySem.W.Frag} {mg : Str → Option Value} {base : Heap}
abbrev s_good_reach : Stmt := top 29
theorem sc_good_reach : FnScope ["good", "given", "days", "life", "first", "last"] ["good", "given"] (defScope s_good_reach) := ⟨rfl, rfl, rfl, by decide +kernel, rfl, by decide +kernel, by decide +kernel⟩
def spGReach (K : PySem.W.Frag) : Sp := fun vs H Q _ => ∃ x g, ∃ k : Nat, vs = [x, .int (k : Int)] ∧ Th K H x (goodD g) ∧ k < g.days.length ∧ g.days.length ≤ 1000 ∧ ∀ (H' : Hp) (p : Addr) (last : Nat), Same H H' → H p = none → H' p = some (.tup [.int (reachF g k), .int (last : Int)]) → ReachL g k last → Q (.ref p) H'
def ReI (v0 v1 v6 v7 v8 : V) (g : Good) (k : Nat) (H : Hp) (i : Nat) (σ : L2.St) (H' : Hp) : Prop := σ = [some v0, some v1, some v6, some v7, some v8, some (.int ((k + i : Nat) : Int))] ∧ H' = H ∧ k + i < g.days.length ∧ ∃ z, finesL g.days k (k + i) = some z
theorem ok_good_reach {f : Addr} {fd : FuncData} (F : Fun K "good_reach" "good_reach" s_good_reach f fd) (B : Bi mg) : FnOk P w K mg base CX0 1 f fd ["good", "given"] (spGReach K) := by
  refine F.ok sc_good_reach (fun vs H Q E h => ?_) (fun cdv A outer s H vs Q E hr h => ?_)
  · obtain ⟨x, g, k, rfl, _⟩ := h
    rfl
  · obtain ⟨x, g, k, rfl, hvg, hk, hk1, q⟩ := h
    refine ⟨_, (pss_cons (ps_asg (pv 0) (pg_tup rfl (pgs_cons (pg_name (i := 2) sc_good_reach.nd rfl (Or.inl rfl)) (pgs_cons (pg_name (i := 3) sc_good_reach.nd rfl (Or.inl rfl)) pgs_nil))))
 (pss_cons (ps_set (i := 4) sc_good_reach.nd rfl (Or.inl rfl) (pe_ifExp (pt_cmpR op_isN (pv 3) pe_non (nomark _)) pe_int (pe_callB (call_mx rfl) (by rfl) B.max (by decide +kernel) (pa_cons pe_int (pa_cons (pe_op op_sub (pv 1) (pv 3)) pa_nil)))))
 (pss_cons (ps_set (i := 5) sc_good_reach.nd rfl (Or.inl rfl) (pv 1))
 (pss_cons (ps_while PassesOwn.never (PW.pt (pw_and (pt_cmpR op_lt (pe_op op_add (pv 5) pe_int) (pe_callB call_lnL (by rfl) B.len (by decide +kernel) (pa_cons (pv 2) pa_nil)) (nomark _)) (pw_and1 (pt_cmpR op_notN (pe_ix ix_tup (pe_ix ix_list (pv 2) (pv 5) (fun _ _ => rfl)) pe_int (fun _ _ => rfl)) pe_non (nomark _))))) (pss_one (ps_aug (i := 5) sc_good_reach.nd rfl (Or.inl rfl) pe_int ip_add)))
 (pss_one (ps_ret (pe_tup (pa_cons (pv 4) (pa_cons (pv 5) pa_nil))))))))), ?_⟩
    obtain ⟨t, ad, xs, rfl, htg, hsg, hag⟩ := hvg.good
    walk_at "wp"
    refine ⟨_, htg, rfl, ?_⟩
    have loop : ∀ (fv : V), fv = .int (reachF g k) → tSeq (tWhile (tAnd (tTest (tOp (rI0 fun i j => V.bl (decide (i < j))) (tOp (rI0 fun i j => V.int (i + j)) (tVar 5) (tC (V.int 1))) (tCB (rLnL K) (tCons (tVar 2) tNil)))) (tTest (tOp (fun x y H Q => y = V.non ∧ Q (V.bl (!decide (x = V.non))) H) (tOp (rIxT K) (tOp (rIxL K) (tVar 2) (tVar 5)) (tC (V.int 3))) (tC V.non)))) (tAug 5 (tC (V.int 1)) (ipI fun i j => i + j))) (tRet (tTup (tCons (tVar 4) (tCons (tVar 5) tNil)))) { nx := fun _ H' => Q .non H', rt := Q } [some (V.ref t), some (V.int (k : Int)), some (V.ref ad), some (optV g.life), some fv, some (V.int (k : Int))] H := by
      intro fv hfv
      subst hfv
      refine while_by (g.days.length - 1 - k) (ReI (.ref t) (.int (k : Int)) (.ref ad) (optV g.life) (.int (reachF g k)) g k H) ⟨rfl, rfl, by omega, 0, by rw [Nat.add_zero]; unfold finesL; rw [Nat.sub_self]; rfl⟩ (fun n σ H2 hn hI => ?_)
      obtain ⟨rfl, rfl, hlt, z, hz⟩ := hI
      have hd : g.days[k + n]? = some g.days[k + n] := List.getElem?_eq_getElem hlt
      generalize g.days[k + n] = d at hd
      obtain ⟨vd, hvd, hvdd⟩ := hag.get' (i := k + n) (d := dayD d) (by rw [List.getElem?_map, hd]; rfl)
      obtain ⟨td, rfl, htd⟩ := hvdd.day
      have hxl := hag.length
      rw [List.length_map] at hxl
      walk_at "wp"
      refine ⟨_, hsg, ?_⟩
      rw [hxl]
      have done : (k + n + 1 < g.days.length → ∃ d, g.days[k + n]? = some d ∧ d.fine = none) → ∀ p, H2 p = none → Q (.ref p) (upd H2 p (.tup [.int (reachF g k), .int ((k + n : Nat) : Int)])) := fun hst p hp => q _ p (k + n) (same_upd hp) hp upd_same ⟨by omega, hlt, ⟨z, hz⟩, hst⟩
      refine ite2 (fun h => ?_) (fun h => ?_)
      · have h : k + n + 1 < g.days.length := by have := of_decide_eq_true h; omega
        refine ⟨_, _, hsg, atI_nat hvd, ?_⟩
        walk_at "wp"
        refine ⟨_, _, htd, atI_nat (j := 3) rfl, ?_⟩
        cases hf : d.fine with
        | none =>
          simp only [optV]
          walk_at "wp"
          exact ⟨sz100 (by decide), done fun _ => ⟨d, hd, hf⟩⟩
        | some y =>
          simp only [optV]
          walk_at "wp"
          refine wstep (by omega) ?_
          walk_at "wp"
          refine ⟨?_, rfl, by omega, z + y, ?_⟩
          · rw [show ((k + n : Nat) : Int) + 1 = ((k + (n + 1) : Nat) : Int) by omega]
          · unfold finesL at hz ⊢
            rw [seg_split g.days (show k ≤ k + n by omega) (show k + n ≤ k + (n + 1) by omega), List.map_append]
            refine sumO_join' hz ?_
            rw [show k + (n + 1) - (k + n) = 1 by omega]
            obtain ⟨hlt2, e⟩ := List.getElem?_eq_some_iff.mp hd
            rw [List.drop_eq_getElem_cons hlt2, e]
            show sumO [d.fine] = some y
            rw [hf]
            show some (y + 0) = some y
            rw [Int.add_zero]
      · exact ⟨sz100 (by decide), done fun z => absurd (decide_eq_true (by omega)) h⟩
    have hlf : (g.life = none ∧ reachF g k = 0) ∨ ∃ l, g.life = some l ∧ reachF g k = (if (k : Int) - l > 0 then (k : Int) - l else 0) := by
      unfold reachF
      cases g.life with
      | none => exact .inl ⟨rfl, rfl⟩
      | some l => exact .inr ⟨l, rfl, rfl⟩
    simp only [gCons_c, gNil_n, gName, List.set]
    rcases hlf with ⟨e1, e2⟩ | ⟨l', e1, e2⟩
    · rw [e1] at loop ⊢
      rw [e2] at loop
      exact ⟨_, rfl, rfl, true, rfl, iteT ⟨_, rfl, loop (.int 0) rfl⟩⟩
    · rw [e1] at loop ⊢
      rw [e2] at loop
      refine ⟨_, rfl, rfl, false, rfl, iteF ⟨_, rfl, _, rfl, _, _, rfl, rfl, _, _, rfl, _, rfl, loop _ rfl⟩⟩
end
end Bk

namespace Bk
open PySem PySem.Spec PyProof.Rows L2
local macro_rules | `(tactic| walk_at "wp") => `(tactic| try simp only [tLc2_eq, rNinr_r, rNeN_r, rCatL_r, rSlT_r, rListOf_r, rIsB_b, rNotB_b, tFmtO, tJs, tOst, tCallS, WE, tRaise2, rOne_i, rSorD_r, tDNewK, Int.zero_add, tNever, tFor_eq, tLc_eq, iList, iTup, iRng1_eq, rRng1_i, iRng2_eq, rRng2_i, iEnum_eq, rEnum_r, iZip_eq, rZip_r, tSl, tPart, tNoPart, rSlL_r, rCat_r, rIn_r, rNin_r, rRepr_r, iRevR, rMin_r, rShr_i, rOdd_i, rSetL_r, gSub, rRg1_i, rRg2_i, rInr_r, tAug, ipI_ii, tLstRg, tRg1, tRg2, gTup_r, gUnl_r, rInt1_b, rInt1_i, rRep_r, tStep_r, scal, tSeq, tNext, tAsg, tRet, tRetN, tIfS, tDrop, tCB, tCons, tNil, tVar, tOp, tUn, tC, rU_i, rI_ii, rI0_ii, rEq, rNe, tTest, tB, tAnd, tOr, tNot, tAndV, tOrV, tNotV, tIf, tChain, tLst, tTup, tBM, tBM0, rAppend_r, rIxL_r, rIxT_r, rMx_ii, rMn_ii, rLnL_r, rLnT_r, rIsD_int, rIsD_bool, rIsD_list, rIsD_tuple, tCall, gName, gNil_n, gCons_c, cxK, L2.start, List.map, List.replicate, List.length_cons, List.length_nil, List.cons_append, List.nil_append, List.append_nil, List.getElem?_cons_zero, List.getElem?_cons_succ, Option.some.injEq, exists_eq_left', exists_eq_left, V.int.injEq, V.bl.injEq, V.str.injEq, V.ref.injEq, List.cons.injEq, and_true, true_and, and_self, List.set, wipe, rAll_r, rSum_r, reduceCtorEq, decide_true, decide_false, reduceIte, ite_true, ite_false, if_true, if_false, Bool.false_eq_true, Bool.not_true, Bool.not_false])
local macro_rules | `(tactic| walk_at "shaped") => `(tactic| (simp only [tLc2_eq, SeqAt.shaped, PyData.canLay0, PyData.canLayAll0, PyData.depth, PyData.depthAll]; rfl))
local macro_rules | `(tactic| walk_at "lay") => `(tactic| (simp only [tLc2_eq, PyData.canLay0, PyData.canLayAll0]; rfl))
section
variable {P : Program} {w : World} {K : PySem.W.Frag} {mg : Str → Option Value} {base : Heap}
abbrev s_reached_wants : Stmt := top 31
theorem sc_reached_wants : FnScope ["good", "days", "life", "given"] ["good"] (defScope s_reached_wants) := ⟨rfl, rfl, rfl, by decide +kernel, rfl, by decide +kernel, by decide +kernel⟩
theorem op_catAK {X : Cx} {K : PySem.W.Frag} (hK : X.K = K) : OpR X (binaryOp .Add) (rCatA K) := by subst hK; exact op_catA
theorem reachL_uniq {g : Good} {k l m : Nat} (hl : ∀ l, g.life = some l → 0 ≤ l) (h1 : ReachL g k l) (h2 : ReachL g k m) : l = m := by
  have a := (reach_iff h1 hl h2.lt).mp ((reach_iff h2 hl h2.lt).mpr ⟨Int.le_trans (reachF_le hl) (by have := h2.le; omega), Nat.le_refl _⟩)
  have b := (reach_iff h2 hl h1.lt).mp ((reach_iff h1 hl h1.lt).mpr ⟨Int.le_trans (reachF_le hl) (by have := h1.le; omega), Nat.le_refl _⟩)
  omega
open Classical in
/-- the last day of the reach -/
noncomputable def lastN (g : Good) (k : Nat) : Nat := if h : ∃ l, ReachL g k l then Classical.choose h else 0
theorem lastN_eq {g : Good} {k l : Nat} (hl : ∀ l, g.life = some l → 0 ≤ l) (h : ReachL g k l) : lastN g k = l := by
  unfold lastN
  have e : ∃ l, ReachL g k l := ⟨l, h⟩
  rw [dif_pos e]
  exact reachL_uniq hl (Classical.choose_spec e) h
def wantA (g : Good) (k : Nat) : Int := match g.days[k]? with
  | some d => d.want
  | none => 0
noncomputable def trG (g : Good) (k : Nat) : Tr := (reachF g k, (lastN g k : Int), wantA g k)
noncomputable def wantsG (g : Good) : List Tr := (List.range g.days.length).map (trG g)
def GoodK (g : Good) (n : Nat) : Prop := g.days.length = n ∧ 1 ≤ n ∧ n ≤ 40 ∧ (∀ l, g.life = some l → 0 ≤ l) ∧ ∀ d ∈ g.days, dayB (dayD d) = true
def spRWants (K : PySem.W.Frag) : Sp := fun vs H Q _ => ∃ x g n, vs = [x] ∧ Th K H x (goodD g) ∧ GoodK g n ∧ ∀ H' y, Same H H' → (∀ a, y = .ref a → H a = none) → TrL H' y (wantsG g) → Q y H'
theorem ok_reached_wants {f : Addr} {fd : FuncData} (F : Fun K "reached_wants" "reached_wants" s_reached_wants f fd) (B : Bi mg) (D_good_reach : Def P w K mg base "good_reach" 1 ["good", "given"] (spGReach K)) : FnOk P w K mg base CX0 2 f fd ["good"] (spRWants K) := by
  refine F.ok sc_reached_wants (fun vs H Q E h => ?_) (fun cdv A outer s H vs Q E hr h => ?_)
  · obtain ⟨_, _, _, rfl, _⟩ := h
    rfl
  · obtain ⟨x, g, n, rfl, hx, ⟨hn, n1, n2, hl0, hok⟩, q⟩ := h
    refine ⟨_, (pss_cons (ps_asg (pv 0) (pg_tup rfl (pgs_cons (pg_name (i := 1) sc_reached_wants.nd rfl (Or.inr rfl)) (pgs_cons (pg_name (i := 2) sc_reached_wants.nd rfl (Or.inl rfl)) pgs_nil))))
 (pss_one (ps_ret (pe_lc (own := [("given", 3)]) (g := (gName 3)) (te := (tOp _ _ (tTup (tCons (tOp (rIxT K) (tOp (rIxL K) _ _) _) tNil)))) rfl sc_reached_wants.nd (pi_range1 (by rfl) B.range (pa_cons (pe_callB call_lnL (by rfl) B.len (by decide +kernel) (pa_cons (pv 1) pa_nil)) pa_nil)) (blkOk_by (own := [("given", 3)]) (N := ["good", "days", "life", "given"]) (sc := defScope s_reached_wants) (by decide +kernel)) (fun _ _ _ _ _ => (pg_name (i := 3) sc_reached_wants.nd rfl (Or.inl rfl))) (fun _ _ _ _ _ => pts_nil) (fun _ _ _ _ _ => (pe_op (op_catAK (K := K) rfl) (pe_callD D_good_reach hr (by rfl) (pa_cons (pv 0) (pa_cons (pv 3) pa_nil))) (pe_tup (pa_cons (pe_ix ix_tup (pe_ix ix_list (pv 1) (pv 3) (fun _ _ => rfl)) pe_int (fun _ _ => rfl)) pa_nil)))))))), ?_⟩
    have hx0 := hx
    obtain ⟨t, a, xs, rfl, ht, hs, ha⟩ := hx.good
    have hxl : xs.length = n := by rw [ha.length, List.length_map, hn]
    walk_at "wp"
    refine ⟨_, ht, rfl, ?_⟩
    walk_at "wp"
    refine ⟨_, hs, ?_⟩
    rw [hxl]
    refine ⟨by omega, by omega, fun D hD => ?_⟩
    rw [show (n : Int).toNat = n by omega]
    refine LcR.by walk_range (fun i H' => Same H H' ∧ ∃ acc, H' D = some (.lst acc) ∧ Trs H' acc ((List.range i).map (trG g))) ⟨same_upd hD, [], upd_same, .nil⟩ (fun _ _ _ _ => trivial) (fun i v H0 H2 hi hI yy => ?_) (fun H2 hI => ?_)
    · obtain ⟨rfl, rfl⟩ := yy
      obtain ⟨S2, acc, ea, hacc⟩ := hI
      have hd : g.days[i]? = some g.days[i] := List.getElem?_eq_getElem (by omega)
      generalize g.days[i] = d at hd
      obtain ⟨v, hv, hvd⟩ := ha.get' (i := i) (d := dayD d) (by rw [List.getElem?_map, hd]; rfl)
      obtain ⟨t2, rfl, ht2⟩ := hvd.day
      walk_at "wp"
      refine ⟨_, g, i, rfl, hx0.same S2, by omega, by omega, fun H3 p last S3 hp hpt hR => ?_⟩
      have S23 := S2.trans S3
      walk_at "wp"
      refine ⟨_, _, S23.seq hs, atI_nat hv, ?_⟩
      walk_at "wp"
      refine ⟨_, _, Same.tup S23 ht2, atI_nat (j := 0) rfl, ?_⟩
      refine ⟨sz100 (by decide), fun p1 n1 => ?_⟩
      have S4 := same_upd (o := .tup [V.int d.want]) n1
      have E4 : upd H3 p1 (.tup [V.int d.want]) p1 = some (.tup [V.int d.want]) := upd_same
      generalize upd H3 p1 (.tup [V.int d.want]) = H4 at S4 E4 ⊢
      refine ⟨_, _, _, _, rfl, rfl, SqT.of (S4 _ _ hpt), SqT.of E4, sz100 (by show 3 ≤ 100000; decide), fun z => (by cases z), fun _ z => (by cases z), fun _ _ p2 n2 => ?_⟩
      have S5 := same_upd (o := .tup ([V.int (reachF g i), V.int (last : Int)] ++ [V.int d.want])) n2
      have E5 : upd H4 p2 (.tup ([V.int (reachF g i), V.int (last : Int)] ++ [V.int d.want])) p2 = some (.tup (trV (trG g i))) := by
        rw [upd_same]
        unfold trG wantA
        rw [hd, lastN_eq hl0 hR]
        rfl
      generalize upd H4 p2 (.tup ([V.int (reachF g i), V.int (last : Int)] ++ [V.int d.want])) = H5 at S5 E5 ⊢
      have S25 := S3.trans (S4.trans S5)
      have ea5 := S25 _ _ ea
      have hal := hacc.length
      rw [List.length_map, List.length_range] at hal
      refine ⟨acc, ea5, sz100l (by omega), same_mut (S2.trans S25) hD, _, upd_same, ?_⟩
      rw [List.range_succ, List.map_append]
      exact ((hacc.same S25).app (.cons E5 .nil)).mut ea5
    · obtain ⟨S2, acc, ea, hacc⟩ := hI
      refine q _ _ S2 (fun b e => by cases e; exact hD) ⟨D, acc, rfl, ea, ?_⟩
      unfold wantsG
      rw [hn]
      exact hacc
abbrev s_all_wants : Stmt := top 32
theorem sc_all_wants : FnScope ["bakery", "lights", "bound", "goods", "good", "want"] ["bakery"] (defScope s_all_wants) := ⟨rfl, rfl, rfl, by decide +kernel, rfl, by decide +kernel, by decide +kernel⟩
noncomputable def wantsB (b : Bak) : List Tr := (b.goods.map wantsG).flatten
theorem bak_goodK {b : Bak} (hb : bakB (bakD b) = true) {g : Good} (hg : g ∈ b.goods) : GoodK g b.lights.length := by
  obtain ⟨⟨c1, c2⟩, _, _, _, c7⟩ := bak_parts hb
  obtain ⟨h1, h2, h3⟩ := c7 g hg
  exact ⟨h1, c1, c2, life_nonneg h2, h3⟩
theorem wantsG_len {g : Good} {n : Nat} (h : GoodK g n) : (wantsG g).length = n := by
  unfold wantsG
  rw [List.length_map, List.length_range, h.1]
def spAWants (K : PySem.W.Frag) : Sp := fun vs H Q _ => ∃ x b, vs = [x] ∧ Th K H x (bakD b) ∧ bakB (bakD b) = true ∧ ∀ H' y, Same H H' → TrL H' y (wantsB b) → Q y H'
theorem ok_all_wants {f : Addr} {fd : FuncData} (F : Fun K "all_wants" "all_wants" s_all_wants f fd) (D_reached_wants : Def P w K mg base "reached_wants" 2 ["good"] (spRWants K)) : FnOk P w K mg base CX0 3 f fd ["bakery"] (spAWants K) := by
  refine F.ok sc_all_wants (fun vs H Q E h => ?_) (fun cdv A outer s H vs Q E hr h => ?_)
  · obtain ⟨_, _, rfl, _⟩ := h
    rfl
  · obtain ⟨x, b, rfl, hx, hb, q⟩ := h
    refine ⟨_, (pss_cons (ps_asg (pv 0) (pg_tup rfl (pgs_cons (pg_name (i := 1) sc_all_wants.nd rfl (Or.inl rfl)) (pgs_cons (pg_name (i := 2) sc_all_wants.nd rfl (Or.inl rfl)) (pgs_cons (pg_name (i := 3) sc_all_wants.nd rfl (Or.inl rfl)) pgs_nil)))))
 (pss_one (ps_ret (pe_lc2 (own := [("good", 4), ("want", 5)]) (vs1 := [5]) (g := (gName 4)) (g1 := (gName 5)) (wi1 := (iList K (tCall (spRWants K) [] E0 (tCons (tVar 4) tNil)))) rfl sc_all_wants.nd (pi_list (pv 3)) (blkOk_by (own := [("good", 4), ("want", 5)]) (N := ["bakery", "lights", "bound", "goods", "good", "want"]) (sc := defScope s_all_wants) (by decide +kernel)) (by decide) (fun _ _ _ _ _ => (pg_name (i := 4) sc_all_wants.nd rfl (Or.inl rfl))) (fun _ _ _ _ _ => pts_nil) (fun _ _ _ _ _ => (pi_list (pe_callD D_reached_wants hr (by rfl) (pa_cons (pv 4) pa_nil)))) (fun _ _ _ _ _ => (pg_name (i := 5) sc_all_wants.nd rfl (Or.inl rfl))) (fun _ _ _ _ _ => pts_nil) (fun _ _ _ _ _ => (pv 5)))))), ?_⟩
    obtain ⟨_, _, _, ⟨c5, c6⟩, _⟩ := bak_parts hb
    obtain ⟨a, l, v2, ga, xl, xg, rfl, ht, hl, hla, h2, hgl, hga⟩ := Th.bak hx
    have lenG : xg.length = b.goods.length := by rw [hga.length, List.length_map]
    walk_at "wp"
    refine ⟨_, ht, rfl, ?_⟩
    walk_at "wp"
    refine ⟨⟨_, hgl⟩, fun D hD => ?_⟩
    have small : ∀ i, i ≤ b.goods.length → ((b.goods.take i).map wantsG).flatten.length ≤ 80 := fun i hi => by
      have : ∀ (l : List Good), (∀ g ∈ l, g ∈ b.goods) → (l.map wantsG).flatten.length ≤ l.length * 40 := fun l => by
        induction l with
        | nil => intro _; exact Nat.zero_le _
        | cons g r ih =>
          intro h
          have := ih fun g hg => h g (List.mem_cons_of_mem _ hg)
          have e := bak_goodK hb (h g List.mem_cons_self)
          have e2 := wantsG_len e
          have e3 := e.2.2.1
          simp only [List.map_cons, List.flatten_cons, List.length_append, List.length_cons]
          omega
      have := this (b.goods.take i) fun g hg => List.mem_of_mem_take hg
      rw [List.length_take] at this
      omega
    refine Lc2R.by (walk_list (xs := xg)) (fun i H' => Same H H' ∧ ∃ acc, H' D = some (.lst acc) ∧ Trs H' acc ((b.goods.take i).map wantsG).flatten) ⟨same_upd hD, [], upd_same, .nil⟩ (fun i H' _ hI => hI.1.seq hgl) (fun i x H0 H2 hi hI yy => ?_) (fun H2 hI => ?_)
    · obtain ⟨rfl, hxi⟩ := yy
      obtain ⟨S2, acc, ea, hacc⟩ := hI
      obtain ⟨dd, hdd, hxd⟩ := hga.get hxi
      rw [List.getElem?_map] at hdd
      cases hgi : b.goods[i]? with
      | none => rw [hgi] at hdd; cases hdd
      | some g =>
      rw [hgi] at hdd
      cases hdd
      have hgk := bak_goodK hb (List.mem_of_getElem? hgi)
      have hlen := wantsG_len hgk
      have h40 := hgk.2.2.1
      have hst : ((b.goods.take (i + 1)).map wantsG).flatten = ((b.goods.take i).map wantsG).flatten ++ wantsG g := by
        rw [List.take_succ, hgi, List.map_append, List.flatten_append]
        simp only [Option.toList_some, List.map_cons, List.map_nil, List.flatten_cons, List.flatten_nil, List.append_nil]
      have hsm := small i (by omega)
      walk_at "wp"
      refine ⟨_, g, _, rfl, hxd.same S2, hgk, fun H3 y S3 hny hy => ?_⟩
      obtain ⟨a2, vs2, rfl, ha2, hv2⟩ := hy
      have hne : a2 ≠ D := fun z => by
        have := hny a2 rfl
        rw [z, ea] at this
        cases this
      refine ⟨a2, rfl, ⟨_, SqL.of ha2⟩, ?_⟩
      refine Lc1R.by (walk_list (xs := vs2)) (fun j H' => Same H H' ∧ H' a2 = some (.lst vs2) ∧ Trs H' vs2 (wantsG g) ∧ ∃ acc, H' D = some (.lst acc) ∧ Trs H' acc (((b.goods.take i).map wantsG).flatten ++ (wantsG g).take j)) ⟨S2.trans S3, ha2, hv2, acc, S3 _ _ ea, by rw [List.take_zero, List.append_nil]; exact hacc.same S3⟩ (fun j H' _ hI => SqL.of hI.2.1) (fun j x H4 H5 hj hI yy => ?_) (fun H4 hI => ?_)
      · obtain ⟨rfl, hxj⟩ := yy
        obtain ⟨S4, k1, k2, acc, k3, k4⟩ := hI
        obtain ⟨p, t, rfl, ht, hp⟩ := k2.get hxj
        have hal := k4.length
        rw [List.length_append, List.length_take] at hal
        walk_at "wp"
        refine ⟨acc, k3, sz100l (by omega), same_mut S4 hD, by rw [upd_ne hne]; exact k1, k2.mut k3, _, upd_same, ?_⟩
        rw [List.take_succ, ht, ← List.append_assoc]
        exact (k4.app (.cons hp .nil)).mut k3
      · obtain ⟨S4, k1, k2, acc, k3, k4⟩ := hI
        refine ⟨S4, acc, k3, ?_⟩
        rw [hst]
        rw [hv2.length, List.take_of_length_le (Nat.le_refl _)] at k4
        exact k4
    · obtain ⟨S2, acc, ea, hacc⟩ := hI
      refine q _ _ S2 ⟨D, acc, rfl, ea, ?_⟩
      rw [lenG, List.take_of_length_le (Nat.le_refl _)] at hacc
      exact hacc
abbrev s_room_of_day : Stmt := top 33
theorem sc_room_of_day : FnScope ["bakery", "lights", "bound", "goods", "days", "life", "want", "loaf", "keep", "fine"] ["bakery"] (defScope s_room_of_day) := ⟨rfl, rfl, rfl, by decide +kernel, rfl, by decide +kernel, by decide +kernel⟩
/-- all that is wanted -/
def allWanted (b : Bak) : Int := ((b.goods.map fun g => g.days.map (·.want)).flatten).sum
def roomB (b : Bak) : Int := match b.bound with
  | some z => z
  | none => allWanted b
def spRoom (K : PySem.W.Frag) : Sp := fun vs H Q _ => ∃ x b, vs = [x] ∧ Th K H x (bakD b) ∧ bakB (bakD b) = true ∧ ∀ H', Same H H' → Q (.int (roomB b)) H'
theorem ok_room_of_day {f : Addr} {fd : FuncData} (F : Fun K "room_of_day" "room_of_day" s_room_of_day f fd) (B : Bi mg) : FnOk P w K mg base CX0 1 f fd ["bakery"] (spRoom K) := by
  refine F.ok sc_room_of_day (fun vs H Q E h => ?_) (fun cdv A outer s H vs Q E hr h => ?_)
  · obtain ⟨_, _, rfl, _⟩ := h
    rfl
  · obtain ⟨x, b, rfl, hx, hb, q⟩ := h
    refine ⟨_, (pss_cons (ps_asg (pv 0) (pg_tup rfl (pgs_cons (pg_name (i := 1) sc_room_of_day.nd rfl (Or.inl rfl)) (pgs_cons (pg_name (i := 2) sc_room_of_day.nd rfl (Or.inl rfl)) (pgs_cons (pg_name (i := 3) sc_room_of_day.nd rfl (Or.inl rfl)) pgs_nil)))))
 (pss_cons (ps_if (pt_cmpR op_notN (pv 2) pe_non (nomark _)) (pss_one (ps_ret (pv 2))) pss_nil)
 (pss_one (ps_ret (pe_callB (cr_sum rfl) (by rfl) B.sum (by decide +kernel) (pa_cons (pe_lc2 (own := [("days", 4), ("life", 5), ("want", 6), ("loaf", 7), ("keep", 8), ("fine", 9)]) (vs1 := [6, 7, 8, 9]) (g := (gTup K 2 (gCons (gName 4) (gCons (gName 5) gNil)))) (g1 := (gTup K 4 (gCons (gName 6) (gCons (gName 7) (gCons (gName 8) (gCons (gName 9) gNil)))))) (wi1 := (iList K (tVar 4))) rfl sc_room_of_day.nd (pi_list (pv 3)) (blkOk_by (own := [("days", 4), ("life", 5), ("want", 6), ("loaf", 7), ("keep", 8), ("fine", 9)]) (N := ["bakery", "lights", "bound", "goods", "days", "life", "want", "loaf", "keep", "fine"]) (sc := defScope s_room_of_day) (by decide +kernel)) (by decide) (fun _ _ _ _ _ => (pg_tup rfl (pgs_cons (pg_name (i := 4) sc_room_of_day.nd rfl (Or.inl rfl)) (pgs_cons (pg_name (i := 5) sc_room_of_day.nd rfl (Or.inl rfl)) pgs_nil)))) (fun _ _ _ _ _ => pts_nil) (fun _ _ _ _ _ => (pi_list (pv 4))) (fun _ _ _ _ _ => (pg_tup rfl (pgs_cons (pg_name (i := 6) sc_room_of_day.nd rfl (Or.inl rfl)) (pgs_cons (pg_name (i := 7) sc_room_of_day.nd rfl (Or.inl rfl)) (pgs_cons (pg_name (i := 8) sc_room_of_day.nd rfl (Or.inl rfl)) (pgs_cons (pg_name (i := 9) sc_room_of_day.nd rfl (Or.inl rfl)) pgs_nil)))))) (fun _ _ _ _ _ => pts_nil) (fun _ _ _ _ _ => (pv 6))) pa_nil)))))), ?_⟩
    obtain ⟨⟨c1, c2⟩, _, _, ⟨c5, c6⟩, c7⟩ := bak_parts hb
    obtain ⟨a, l, v2, ga, xl, xg, rfl, ht, hl, hla, h2, hgl, hga⟩ := Th.bak hx
    have lenG : xg.length = b.goods.length := by rw [hga.length, List.length_map]
    have e2 := h2.opt
    subst e2
    walk_at "wp"
    refine ⟨_, ht, rfl, ?_⟩
    cases hbo : b.bound with
    | some z =>
      simp only [optV]
      walk_at "wp"
      refine (show Q (.int z) H → _ from id) ?_
      have := q H (Same.refl _)
      unfold roomB at this
      rw [hbo] at this
      exact this
    | none =>
      simp only [optV]
      walk_at "wp"
      refine ⟨⟨_, hgl⟩, fun D hD => ?_⟩
      have hq := fun H' S => q H' S
      unfold roomB at hq
      rw [hbo] at hq
      have small : ∀ i, i ≤ b.goods.length → ((b.goods.take i).map fun g => g.days.map (·.want)).flatten.length ≤ 80 := fun i hi => by
        have : ∀ (l : List Good), (∀ g ∈ l, g ∈ b.goods) → (l.map fun g => g.days.map (·.want)).flatten.length ≤ l.length * 40 := fun l => by
          induction l with
          | nil => intro _; exact Nat.zero_le _
          | cons g r ih =>
            intro h
            have := ih fun g hg => h g (List.mem_cons_of_mem _ hg)
            have e := (c7 g (h g List.mem_cons_self)).1
            simp only [List.map_cons, List.flatten_cons, List.length_append, List.length_cons, List.length_map]
            omega
        have := this (b.goods.take i) fun g hg => List.mem_of_mem_take hg
        rw [List.length_take] at this
        omega
      refine Lc2R.by (walk_list (xs := xg)) (fun i H' => Same H H' ∧ H' D = some (.lst ((((b.goods.take i).map fun g => g.days.map (·.want)).flatten).map V.int))) ⟨same_upd hD, upd_same⟩ (fun i H' _ hI => hI.1.seq hgl) (fun i x H0 H2 hi hI yy => ?_) (fun H2 hI => ?_)
      · obtain ⟨rfl, hxi⟩ := yy
        obtain ⟨S2, ea⟩ := hI
        obtain ⟨dd, hdd, hxd⟩ := hga.get hxi
        rw [List.getElem?_map] at hdd
        cases hgi : b.goods[i]? with
        | none => rw [hgi] at hdd; cases hdd
        | some g =>
        rw [hgi] at hdd
        cases hdd
        have hsm := small i (by omega)
        have h40 := (c7 g (List.mem_of_getElem? hgi)).1
        obtain ⟨t, ad, xs, rfl, htg, hs, ha⟩ := hxd.good
        have hxs : xs.length = g.days.length := by rw [ha.length, List.length_map]
        have hst : ((b.goods.take (i + 1)).map fun g => g.days.map (·.want)).flatten = ((b.goods.take i).map fun g => g.days.map (·.want)).flatten ++ g.days.map (·.want) := by
          rw [List.take_succ, hgi, List.map_append, List.flatten_append]
          simp only [Option.toList_some, List.map_cons, List.map_nil, List.flatten_cons, List.flatten_nil, List.append_nil]
        walk_at "wp"
        refine ⟨_, Same.tup S2 htg, rfl, ?_⟩
        walk_at "wp"
        refine ⟨⟨_, S2.seq hs⟩, ?_⟩
        refine Lc1R.by (walk_list (xs := xs)) (fun j H' => Same H H' ∧ H' D = some (.lst ((((b.goods.take i).map fun g => g.days.map (·.want)).flatten ++ (g.days.take j).map (·.want)).map V.int))) ⟨S2, by rw [List.take_zero, List.map_nil, List.append_nil]; exact ea⟩ (fun j H' _ hI => hI.1.seq hs) (fun j x H4 H5 hj hI yy => ?_) (fun H4 hI => ?_)
        · obtain ⟨rfl, hxj⟩ := yy
          obtain ⟨S4, k3⟩ := hI
          obtain ⟨dd, hdd, hvd⟩ := ha.get hxj
          rw [List.getElem?_map] at hdd
          cases hdj : g.days[j]? with
          | none => rw [hdj] at hdd; cases hdd
          | some dy =>
          rw [hdj] at hdd
          cases hdd
          obtain ⟨t2, rfl, ht2⟩ := hvd.day
          walk_at "wp"
          refine ⟨_, Same.tup S4 ht2, rfl, ?_⟩
          walk_at "wp"
          refine ⟨_, k3, sz100l (by rw [List.length_map, List.length_append, List.length_map, List.length_take]; omega), same_mut S4 hD, ?_⟩
          rw [upd_same, List.take_succ, hdj]
          simp only [Option.toList_some, List.map_append, List.map_cons, List.map_nil, List.append_assoc]
        · obtain ⟨S4, k3⟩ := hI
          refine ⟨S4, ?_⟩
          rw [hst]
          rw [hxs, List.take_of_length_le (Nat.le_refl _)] at k3
          exact k3
      · obtain ⟨S2, ea⟩ := hI
        rw [lenG, List.take_of_length_le (Nat.le_refl _)] at ea
        exact ⟨_, SqL.of ea, hq _ S2⟩
abbrev s_rooms_beside : Stmt := top 34
theorem sc_rooms_beside : FnScope ["bakery", "dark", "lights", "bound", "goods", "room", "day"] ["bakery", "dark"] (defScope s_rooms_beside) := ⟨rfl, rfl, rfl, by decide +kernel, rfl, by decide +kernel, by decide +kernel⟩
theorem flat_ints : ∀ (ds : List Int), (ds.map V.int).all flatV = true
  | [] => rfl
  | d :: r => by rw [List.map_cons, List.all_cons, flat_ints r]; rfl
theorem inV_ints {i : Int} : ∀ {ds : List Int}, inV (.int i) (ds.map V.int) = decide (i ∈ ds)
  | [] => by rw [decide_eq_false (by simp)]; rfl
  | d :: r => by
    have ih := inV_ints (i := i) (ds := r)
    unfold inV at ih ⊢
    rw [List.map_cons, List.any_cons, ih]
    show (decide (d = i) || _) = _
    by_cases e : d = i
    · subst e
      rw [decide_eq_true (show d ∈ d :: r from List.mem_cons_self), decide_eq_true rfl, Bool.true_or]
    · rw [decide_eq_false e, Bool.false_or]
      exact decide_eq_decide.mpr ⟨fun h => List.mem_cons_of_mem _ h, fun h => (List.mem_cons.mp h).resolve_left fun z => e z.symm⟩
def roomD (b : Bak) (ds : List Int) (i : Nat) : Int := if (i : Int) ∈ ds then 0 else roomB b
def roomsL (b : Bak) (ds : List Int) : List Int := (List.range b.lights.length).map (roomD b ds)
def spRooms (K : PySem.W.Frag) : Sp := fun vs H Q _ => ∃ x b a ds, vs = [x, .ref a] ∧ Th K H x (bakD b) ∧ bakB (bakD b) = true ∧ SqL K H a ((ds : List Int).map V.int) ∧ ∀ H' p, Same H H' → H' p = some (.lst ((roomsL b ds).map V.int)) → Q (.ref p) H'
theorem ok_rooms_beside {f : Addr} {fd : FuncData} (F : Fun K "rooms_beside" "rooms_beside" s_rooms_beside f fd) (B : Bi mg) (D_room_of_day : Def P w K mg base "room_of_day" 1 ["bakery"] (spRoom K)) : FnOk P w K mg base CX0 2 f fd ["bakery", "dark"] (spRooms K) := by
  refine F.ok sc_rooms_beside (fun vs H Q E h => ?_) (fun cdv A outer s H vs Q E hr h => ?_)
  · obtain ⟨_, _, _, _, rfl, _⟩ := h
    rfl
  · obtain ⟨x, b, ad, ds, rfl, hx, hb, hds, q⟩ := h
    refine ⟨_, (pss_cons (ps_asg (pv 0) (pg_tup rfl (pgs_cons (pg_name (i := 2) sc_rooms_beside.nd rfl (Or.inl rfl)) (pgs_cons (pg_name (i := 3) sc_rooms_beside.nd rfl (Or.inl rfl)) (pgs_cons (pg_name (i := 4) sc_rooms_beside.nd rfl (Or.inl rfl)) pgs_nil)))))
 (pss_cons (ps_set (i := 5) sc_rooms_beside.nd rfl (Or.inr rfl) (pe_callD D_room_of_day hr (by rfl) (pa_cons (pv 0) pa_nil)))
 (pss_one (ps_ret (pe_lc (own := [("day", 6)]) (g := (gName 6)) (te := (tIf (tTest (tOp (rIn K false) _ _)) _ _)) rfl sc_rooms_beside.nd (pi_range1 (by rfl) B.range (pa_cons (pe_callB call_lnL (by rfl) B.len (by decide +kernel) (pa_cons (pv 2) pa_nil)) pa_nil)) (blkOk_by (own := [("day", 6)]) (N := ["bakery", "dark", "lights", "bound", "goods", "room", "day"]) (sc := defScope s_rooms_beside) (by decide +kernel)) (fun _ _ _ _ _ => (pg_name (i := 6) sc_rooms_beside.nd rfl (Or.inl rfl))) (fun _ _ _ _ _ => pts_nil) (fun _ _ _ _ _ => (pe_ifExp (pt_cmpR op_in_seq (pv 6) (pv 1) (by rfl)) pe_int (pv 5)))))))), ?_⟩
    obtain ⟨⟨c1, c2⟩, _, _, ⟨c5, c6⟩, c7⟩ := bak_parts hb
    have hx0 := hx
    obtain ⟨a, l, v2, ga, xl, xg, rfl, ht, hl, hla, h2, hgl, hga⟩ := Th.bak hx
    have lenL : xl.length = b.lights.length := by rw [hla.length, List.length_map]
    walk_at "wp"
    refine ⟨_, ht, rfl, ?_⟩
    walk_at "wp"
    refine ⟨_, b, rfl, hx0, hb, fun H1 S1 => ?_⟩
    walk_at "wp"
    refine ⟨_, S1.seq hl, ?_⟩
    rw [lenL]
    refine ⟨by omega, by omega, fun D hD => ?_⟩
    rw [show (b.lights.length : Int).toNat = b.lights.length by omega]
    refine LcR.by walk_range (fun i H' => Same H1 H' ∧ H' D = some (.lst (((List.range i).map (roomD b ds)).map V.int))) ⟨same_upd hD, upd_same⟩ (fun _ _ _ _ => trivial) (fun i v H0 H2 hi hI yy => ?_) (fun H2 hI => ?_)
    · obtain ⟨rfl, rfl⟩ := yy
      obtain ⟨S2, ea⟩ := hI
      walk_at "wp"
      refine ⟨_, .inl ((S1.trans S2).seq hds), rfl, flat_ints _, ?_⟩
      rw [inV_ints]
      have put : ∀ z, roomD b ds i = z → ∃ acc, H2 D = some (.lst acc) ∧ acc.length < sizeLine ∧ Same H1 (upd H2 D (.lst (acc ++ [V.int z]))) ∧ upd H2 D (.lst (acc ++ [V.int z])) D = some (.lst (((List.range (i + 1)).map (roomD b ds)).map V.int)) := fun z e => by
        refine ⟨_, ea, sz100l (by rw [List.length_map, List.length_map, List.length_range]; omega), same_mut S2 hD, ?_⟩
        rw [upd_same, List.range_succ, List.map_append, List.map_append, List.map_singleton, List.map_singleton, e]
      by_cases hm : (i : Int) ∈ ds
      · rw [decide_eq_true hm]
        exact put 0 (by unfold roomD; rw [if_pos hm])
      · rw [decide_eq_false hm]
        exact put _ (by unfold roomD; rw [if_neg hm])
    · obtain ⟨S2, ea⟩ := hI
      exact q _ _ (S1.trans S2) ea
end
end Bk

namespace Bk
open PySem PySem.Spec PyProof.Rows L2
local macro_rules | `(tactic| walk_at "wp") => `(tactic| try simp only [tLc2_eq, tAugS, rNinr_r, rNeN_r, rCatL_r, rSlT_r, rListOf_r, rIsB_b, rNotB_b, tFmtO, tJs, tOst, tCallS, WE, tRaise2, rOne_i, rSorD_r, tDNewK, Int.zero_add, tNever, tFor_eq, tLc_eq, iList, iTup, iRng1_eq, rRng1_i, iRng2_eq, rRng2_i, iEnum_eq, rEnum_r, iZip_eq, rZip_r, tSl, tPart, tNoPart, rSlL_r, rCat_r, rIn_r, rNin_r, rRepr_r, iRevR, rMin_r, rShr_i, rOdd_i, rSetL_r, gSub, rRg1_i, rRg2_i, rInr_r, tAug, ipI_ii, tLstRg, tRg1, tRg2, gTup_r, gUnl_r, rInt1_b, rInt1_i, rRep_r, tStep_r, scal, tSeq, tNext, tAsg, tRet, tRetN, tIfS, tDrop, tCB, tCons, tNil, tVar, tOp, tUn, tC, rU_i, rI_ii, rI0_ii, rEq, rNe, tTest, tB, tAnd, tOr, tNot, tAndV, tOrV, tNotV, tIf, tChain, tLst, tTup, tBM, tBM0, rAppend_r, rIxL_r, rIxT_r, rMx_ii, rMn_ii, rLnL_r, rLnT_r, rIsD_int, rIsD_bool, rIsD_list, rIsD_tuple, tCall, gName, gNil_n, gCons_c, cxK, L2.start, List.map, List.replicate, List.length_cons, List.length_nil, List.cons_append, List.nil_append, List.append_nil, List.getElem?_cons_zero, List.getElem?_cons_succ, Option.some.injEq, exists_eq_left', exists_eq_left, V.int.injEq, V.bl.injEq, V.str.injEq, V.ref.injEq, List.cons.injEq, and_true, true_and, and_self, List.set, wipe, rAll_r, rSum_r, reduceCtorEq, decide_true, decide_false, reduceIte, ite_true, ite_false, if_true, if_false, Bool.false_eq_true, Bool.not_true, Bool.not_false])
local macro_rules | `(tactic| walk_at "shaped") => `(tactic| (simp only [tLc2_eq, tAugS, SeqAt.shaped, PyData.canLay0, PyData.canLayAll0, PyData.depth, PyData.depthAll]; rfl))
local macro_rules | `(tactic| walk_at "lay") => `(tactic| (simp only [tLc2_eq, tAugS, PyData.canLay0, PyData.canLayAll0]; rfl))
local macro_rules | `(tactic| walk_at "wg") => `(tactic| try simp only [gName, gTup_r, gCons_c, gNil_n, cxK, List.set, List.cons.injEq, and_true, true_and, exists_eq_left', exists_eq_left, List.length_cons, List.length_nil])
section
variable {P : Program} {w : World} {K : PySem.W.Frag} {mg : Str → Option Value} {base : Heap}
theorem Trs.mem {H : Hp} : ∀ {vs : List V} {ts : List Tr}, Trs H vs ts → True
  | _, _, _ => trivial
def TrOk (W : List Tr) (n : Nat) : Prop := ∀ t ∈ W, 0 ≤ t.1 ∧ t.1 ≤ t.2.1 ∧ t.2.1 < (n : Int)
def spLtm (K : PySem.W.Frag) : Sp := fun vs H Q _ => ∃ (v : V) (W : List Tr) (a : Addr) (rs : List Int) (f : Nat), vs = [v, .ref a, .int (f : Int)] ∧ TrL H v W ∧ W.length ≤ 1000 ∧ H a = some (.lst (rs.map V.int)) ∧ TrOk W rs.length ∧ f ≤ rs.length ∧ rs.length ≤ 1000 ∧ ∀ H' o, Same H H' → IsLm W rs f o → Q (natV o) H'
def stV : Option (Nat × Nat) → Hp → V → Prop
  | none, _, v => v = .non
  | some (f, l), H, v => ∃ p, v = .ref p ∧ H p = some (.tup [.int (f : Int), .int (l : Int)])
def spFs (K : PySem.W.Frag) : Sp := fun vs H Q _ => ∃ (v : V) (W : List Tr) (a : Addr) (rs : List Int), vs = [v, .ref a] ∧ TrL H v W ∧ W.length ≤ 1000 ∧ H a = some (.lst (rs.map V.int)) ∧ TrOk W rs.length ∧ rs.length ≤ 1000 ∧ ∀ H' o y, Same H H' → IsFs W rs o → stV o H' y → Q y H'
end
end Bk

namespace Bk
open PySem PySem.Spec PyProof.Rows L2
local macro_rules | `(tactic| walk_at "wp") => `(tactic| try simp only [tLc2_eq, tAugS, rNinr_r, rNeN_r, rCatL_r, rSlT_r, rListOf_r, rIsB_b, rNotB_b, tFmtO, tJs, tOst, tCallS, WE, tRaise2, rOne_i, rSorD_r, tDNewK, Int.zero_add, tNever, tFor_eq, tLc_eq, iList, iTup, iRng1_eq, rRng1_i, iRng2_eq, rRng2_i, iEnum_eq, rEnum_r, iZip_eq, rZip_r, tSl, tPart, tNoPart, rSlL_r, rCat_r, rIn_r, rNin_r, rRepr_r, iRevR, rMin_r, rShr_i, rOdd_i, rSetL_r, gSub, rRg1_i, rRg2_i, rInr_r, tAug, ipI_ii, tLstRg, tRg1, tRg2, gTup_r, gUnl_r, rInt1_b, rInt1_i, rRep_r, tStep_r, scal, tSeq, tNext, tAsg, tRet, tRetN, tIfS, tDrop, tCB, tCons, tNil, tVar, tOp, tUn, tC, rU_i, rI_ii, rI0_ii, rEq, rNe, tTest, tB, tAnd, tOr, tNot, tAndV, tOrV, tNotV, tIf, tChain, tLst, tTup, tBM, tBM0, rAppend_r, rIxL_r, rIxT_r, rMx_ii, rMn_ii, rLnL_r, rLnT_r, rIsD_int, rIsD_bool, rIsD_list, rIsD_tuple, tCall, gName, gNil_n, gCons_c, cxK, L2.start, List.map, List.replicate, List.length_cons, List.length_nil, List.cons_append, List.nil_append, List.append_nil, List.getElem?_cons_zero, List.getElem?_cons_succ, Option.some.injEq, exists_eq_left', exists_eq_left, V.int.injEq, V.bl.injEq, V.str.injEq, V.ref.injEq, List.cons.injEq, and_true, true_and, and_self, List.set, wipe, rAll_r, rSum_r, reduceCtorEq, decide_true, decide_false, reduceIte, ite_true, ite_false, if_true, if_false, Bool.false_eq_true, Bool.not_true, Bool.not_false])
local macro_rules | `(tactic| walk_at "shaped") => `(tactic| (simp only [tLc2_eq, tAugS, SeqAt.shaped, PyData.canLay0, PyData.canLayAll0, PyData.depth, PyData.depthAll]; rfl))
local macro_rules | `(tactic| walk_at "lay") => `(tactic| (simp only [tLc2_eq, tAugS, PyData.canLay0, PyData.canLayAll0]; rfl))
local macro_rules | `(tactic| walk_at "wg") => `(tactic| try simp only [gName, gTup_r, gCons_c, gNil_n, cxK, List.set, List.cons.injEq, and_true, true_and, exists_eq_left', exists_eq_left, List.length_cons, List.length_nil])
section
variable {P : Program} {w : World} {K : PySem.W.Frag} {mg : Str → Option Value} {base : Heap}
abbrev s_look_at_days : Stmt := top 24
theorem sc_look_at_days : FnScope ["bakery", "thing", "lights", "bound", "goods", "day", "following"] ["bakery", "thing"] (defScope s_look_at_days) := ⟨rfl, rfl, rfl, by decide +kernel, rfl, by decide +kernel, by decide +kernel⟩
def Rising : List Int → Prop
  | x :: y :: r => x < y ∧ Rising (y :: r)
  | _ => True
theorem rising_at : ∀ {ds : List Int} {i : Nat} {x y : Int}, Rising ds → ds[i]? = some x → ds[i + 1]? = some y → x < y
  | a :: b :: r, 0, x, y, h, e1, e2 => by cases e1; cases e2; exact h.1
  | a :: b :: r, i + 1, x, y, h, e1, e2 => rising_at (ds := b :: r) (i := i) h.2 e1 e2
  | [a], 0, x, y, h, e1, e2 => by cases e2
  | [a], i + 1, x, y, h, e1, e2 => by cases e1
  | [], i, x, y, h, e1, e2 => by cases e1
def DarkOk (ds : List Int) (n : Nat) : Prop := ds.length ≤ 1000 ∧ (∀ d ∈ ds, 0 ≤ d ∧ d < (n : Int)) ∧ Rising ds
def spLookD (K : PySem.W.Frag) : Sp := fun vs H Q _ => ∃ x b a ds, vs = [x, .ref a] ∧ Th K H x (bakD b) ∧ bakB (bakD b) = true ∧ SqL K H a ((ds : List Int).map V.int) ∧ DarkOk ds b.lights.length ∧ ∀ H', Same H H' → Q .non H'
theorem th_ints {H : Hp} {a : Addr} {ds : List Int} (h : SqL K H a (ds.map V.int)) : Th K H (.ref a) (.list (ds.map PyData.int)) := .lst h (ThAll.ints ds)
theorem ok_look_at_days {f : Addr} {fd : FuncData} (F : Fun K "look_at_days" "look_at_days" s_look_at_days f fd) (B : Bi mg) (Bz : mg "zip" = none) (D_is_place : Def P w K mg base "is_place" 2 ["thing", "many"] (spPlace K)) : FnOk P w K mg base CX0 3 f fd ["bakery", "thing"] (spLookD K) := by
  refine F.ok sc_look_at_days (fun vs H Q E h => ?_) (fun cdv A outer s H vs Q E hr h => ?_)
  · obtain ⟨_, _, _, _, rfl, _⟩ := h
    rfl
  · obtain ⟨x, b, ad, ds, rfl, hx, hb, hds, ⟨hd1, hd2, hd3⟩, q⟩ := h
    refine ⟨_, (pss_cons (ps_asg (pv 0) (pg_tup rfl (pgs_cons (pg_name (i := 2) sc_look_at_days.nd rfl (Or.inr rfl)) (pgs_cons (pg_name (i := 3) sc_look_at_days.nd rfl (Or.inl rfl)) (pgs_cons (pg_name (i := 4) sc_look_at_days.nd rfl (Or.inl rfl)) pgs_nil)))))
 (pss_cons (ps_if (PW.pt (pw_or (pt_not (pt_val (pe_callB (call_isD .list) (by rfl) B.isinstance (by decide +kernel) (pa_cons (pv 1) (pa_cons (pe_bltn (v := .ty "list") (by rfl) B.list (by decide +kernel) rfl) pa_nil))))) (pw_or1 (pt_not (pt_val (pe_callB (cr_all rfl) (by rfl) B.all (by decide +kernel) (pa_cons (pe_lc (own := [("day", 5)]) (g := (gName 5)) (te := (tCall _ _ _ (tCons _ (tCons (tCB (rLnL K) _) tNil)))) rfl sc_look_at_days.nd (pi_list (pv 1)) (blkOk_by (own := [("day", 5)]) (N := ["bakery", "thing", "lights", "bound", "goods", "day", "following"]) (sc := defScope s_look_at_days) (by decide +kernel)) (fun _ _ _ _ _ => (pg_name (i := 5) sc_look_at_days.nd rfl (Or.inl rfl))) (fun _ _ _ _ _ => pts_nil) (fun _ _ _ _ _ => (pe_callD D_is_place hr (by rfl) (pa_cons (pv 5) (pa_cons (pe_callB call_lnL (by rfl) B.len (by decide +kernel) (pa_cons (pv 2) pa_nil)) pa_nil))))) pa_nil))))))) (pss_one ps_never) pss_nil)
 (pss_one (ps_if (pt_not (pt_val (pe_callB (cr_all rfl) (by rfl) B.all (by decide +kernel) (pa_cons (pe_lc (own := [("day", 5), ("following", 6)]) (g := (gTup K 2 (gCons (gName 5) (gCons (gName 6) gNil)))) rfl sc_look_at_days.nd (pi_zip (by rfl) Bz (pa_cons (pv 1) (pa_cons (pe_slice sl_list (pv 1) (po_some pe_int) po_none) pa_nil))) (blkOk_by (own := [("day", 5), ("following", 6)]) (N := ["bakery", "thing", "lights", "bound", "goods", "day", "following"]) (sc := defScope s_look_at_days) (by decide +kernel)) (fun _ _ _ _ _ => (pg_tup rfl (pgs_cons (pg_name (i := 5) sc_look_at_days.nd rfl (Or.inl rfl)) (pgs_cons (pg_name (i := 6) sc_look_at_days.nd rfl (Or.inl rfl)) pgs_nil)))) (fun _ _ _ _ _ => pts_nil) (fun _ _ _ _ _ => (pe_cmpR op_lt (pv 5) (pv 6) (nomark _)))) pa_nil)))) (pss_one ps_never) pss_nil)))), ?_⟩
    obtain ⟨a, l, v2, ga, xl, xg, rfl, ht, hl, hla, h2, hgl, hga⟩ := Th.bak hx
    have lenL : xl.length = b.lights.length := by rw [hla.length, List.length_map]
    have alltrue : ∀ n : Nat, ((List.range n).map fun _ => true).all id = true := fun n => by
      rw [List.all_eq_true]
      intro x hx
      obtain ⟨_, _, rfl⟩ := List.mem_map.mp hx
      rfl
    walk_at "wp"
    refine ⟨_, ht, rfl, ?_⟩
    walk_at "wp"
    refine ⟨_, th_ints hds, ?_⟩
    simp only [isD]
    walk_at "wp"
    refine ⟨⟨_, hds⟩, fun D hD => ?_⟩
    refine LcR.by (walk_list (xs := ds.map V.int)) (fun i H' => Same H H' ∧ H' D = some (.lst (((List.range i).map fun _ => true).map V.bl))) ⟨same_upd hD, upd_same⟩ (fun i H' _ hI => hI.1.seq hds) (fun i x H0 H2 hi hI yy => ?_) (fun H2 hI => ?_)
    · obtain ⟨rfl, hxi⟩ := yy
      obtain ⟨S2, ea⟩ := hI
      rw [List.length_map] at hi
      rw [List.getElem?_map, List.getElem?_eq_getElem hi] at hxi
      cases hxi
      obtain ⟨p1, p2⟩ := hd2 ds[i] (List.getElem_mem hi)
      walk_at "wp"
      refine ⟨_, S2.seq hl, ?_⟩
      rw [lenL]
      refine ⟨_, _, rfl, ?_⟩
      rw [decide_eq_true p1, decide_eq_true p2]
      refine ⟨_, ea, sz100l (by rw [List.length_map, List.length_map, List.length_range]; omega), same_mut S2 hD, ?_⟩
      rw [upd_same, List.range_succ, List.map_append, List.map_append]
      rfl
    obtain ⟨S2, ea⟩ := hI
    refine ⟨_, SqL.of ea, ?_⟩
    rw [alltrue]
    walk_at "wp"
    refine ⟨_, S2.seq hds, fun p np => ?_⟩
    rw [show cutV (ds.map V.int) (some 1) none = (ds.drop 1).map V.int from (cutV_from _ 1).trans (by rw [List.map_drop])]
    have S3 := same_upd (o := .lst ((ds.drop 1).map V.int)) np
    have E3 : upd H2 p (.lst ((ds.drop 1).map V.int)) p = some (.lst ((ds.drop 1).map V.int)) := upd_same
    generalize upd H2 p (.lst ((ds.drop 1).map V.int)) = H3 at S3 E3 ⊢
    refine ⟨_, _, (S2.trans S3).seq hds, SqL.of E3, fun D2 hD2 => ?_⟩
    refine LcR.by (walk_zip (n := ds.length - 1) (xs := ds.map V.int) (ys := (ds.drop 1).map V.int) (by rw [List.length_map, List.length_map, List.length_drop]; omega)) (fun i H' => Same H3 H' ∧ H' D2 = some (.lst (((List.range i).map fun _ => true).map V.bl))) ⟨same_upd hD2, upd_same⟩ (fun i H' _ hI => ⟨(S2.trans (S3.trans hI.1)).seq hds, hI.1.seq (SqL.of E3)⟩) (fun i v H0 H4 hi hI hY => ?_) (fun H4 hI => ?_)
    · obtain ⟨S0, hacc⟩ := hI
      have S4 := S0.trans (ypair_same hY)
      have hacc2 := (ypair_same hY) _ _ hacc
      obtain ⟨T, z1, z2, rfl, hT, rfl, e1, e2⟩ := hY
      have e1 : (ds.map V.int)[i]? = some z1 := e1
      have e2 : ((ds.drop 1).map V.int)[i]? = some z2 := e2
      have g1 : ds[i]? = some ds[i] := List.getElem?_eq_getElem (by omega)
      have g2 : ds[i + 1]? = some ds[i + 1] := List.getElem?_eq_getElem (by omega)
      rw [List.getElem?_map, g1] at e1
      rw [List.getElem?_map, List.getElem?_drop, Nat.add_comm 1 i, g2] at e2
      cases e1
      cases e2
      have hlt := rising_at hd3 g1 g2
      walk_at "wp"
      refine ⟨_, SqT.of upd_same, rfl, ?_⟩
      generalize upd H0 T (.tup [V.int ds[i], V.int ds[i + 1]]) = H4 at S4 hacc2 ⊢
      walk_at "wp"
      rw [decide_eq_true hlt]
      refine ⟨_, hacc2, sz100l (by rw [List.length_map, List.length_map, List.length_range]; omega), same_mut S4 hD2, ?_⟩
      rw [upd_same, List.range_succ, List.map_append, List.map_append]
      rfl
    · obtain ⟨S4, ea⟩ := hI
      refine ⟨_, SqL.of ea, ?_⟩
      rw [alltrue]
      exact q _ (S2.trans (S3.trans S4))
def IsTm (b : Bak) (ds : List Int) (o : Option (Nat × Nat)) : Prop := IsFs (wantsB b) (roomsL b ds) o
theorem roomsL_len {b : Bak} {ds : List Int} : (roomsL b ds).length = b.lights.length := by
  unfold roomsL
  rw [List.length_map, List.length_range]
theorem finesL_oneM {ds : List Day} {l : Nat} {d : Day} {z : Int} (h : ds[l]? = some d) (hf : d.fine = some z) : ∃ y, finesL ds l (l + 1) = some y := by
  unfold finesL
  rw [show l + 1 - l = 1 by omega, show ds.drop l = d :: ds.drop (l + 1) from by rw [List.drop_eq_getElem_cons (List.getElem?_eq_some_iff.mp h).1, (List.getElem?_eq_some_iff.mp h).2], List.take_succ_cons, List.take_zero, List.map_cons, List.map_nil, hf]
  exact ⟨_, rfl⟩
theorem reach_up {g : Good} {k : Nat} : ∀ (d l : Nat), l + d + 1 = g.days.length → k ≤ l → (∃ z, finesL g.days k l = some z) → ∃ m, ReachL g k m
  | 0, l, h, hk, hz => ⟨l, hk, by omega, hz, fun z => by omega⟩
  | d + 1, l, h, hk, ⟨z, hz⟩ => by
    have hd : g.days[l]? = some g.days[l] := List.getElem?_eq_getElem (by omega)
    cases hf : g.days[l].fine with
    | none => exact ⟨l, hk, by omega, ⟨z, hz⟩, fun _ => ⟨_, hd, hf⟩⟩
    | some y =>
      obtain ⟨u, hu⟩ := finesL_oneM hd hf
      exact reach_up d (l + 1) (by omega) (by omega) ⟨_, finesL_join hk (by omega) hz hu⟩
theorem reachL_ex {g : Good} {n k : Nat} (h : GoodK g n) (hk : k < n) : ∃ l, ReachL g k l :=
  reach_up (n - 1 - k) k (by rw [h.1]; omega) (Nat.le_refl _) ⟨0, by unfold finesL; rw [Nat.sub_self]; rfl⟩
theorem trG_ok {g : Good} {n k : Nat} (h : GoodK g n) (hk : k < n) : 0 ≤ (trG g k).1 ∧ (trG g k).1 ≤ (trG g k).2.1 ∧ (trG g k).2.1 < (n : Int) := by
  obtain ⟨l, hl⟩ := reachL_ex h hk
  unfold trG
  rw [lastN_eq h.2.2.2.1 hl]
  have a := hl.le
  have b := hl.lt
  have c := reachF_le (g := g) (k := k) h.2.2.2.1
  have d := h.1
  refine ⟨reachF_nonneg g k, ?_, ?_⟩
  · show reachF g k ≤ (l : Int)
    omega
  · show (l : Int) < (n : Int)
    omega
theorem wantsB_mem {b : Bak} (hb : bakB (bakD b) = true) {t : Tr} (h : t ∈ wantsB b) : ∃ g ∈ b.goods, ∃ k < b.lights.length, t = trG g k := by
  unfold wantsB at h
  obtain ⟨l, hl, ht⟩ := List.mem_flatten.mp h
  obtain ⟨g, hg, rfl⟩ := List.mem_map.mp hl
  unfold wantsG at ht
  obtain ⟨k, hk, rfl⟩ := List.mem_map.mp ht
  exact ⟨g, hg, k, by rw [List.mem_range] at hk; rw [← (bak_goodK hb hg).1]; exact hk, rfl⟩
theorem wantsB_len {b : Bak} (hb : bakB (bakD b) = true) : ∀ (l : List Good), (∀ g ∈ l, g ∈ b.goods) → (l.map wantsG).flatten.length ≤ l.length * 40
  | [], _ => Nat.zero_le _
  | g :: r, h => by
    have := wantsB_len hb r fun g hg => h g (List.mem_cons_of_mem _ hg)
    have e := bak_goodK hb (h g List.mem_cons_self)
    have e2 := wantsG_len e
    have e3 := e.2.2.1
    simp only [List.map_cons, List.flatten_cons, List.length_append, List.length_cons]
    omega
theorem wantsB_ok {b : Bak} (hb : bakB (bakD b) = true) : TrOk (wantsB b) b.lights.length ∧ (wantsB b).length ≤ 80 := by
  obtain ⟨_, _, _, ⟨c5, c6⟩, _⟩ := bak_parts hb
  refine ⟨fun t ht => ?_, ?_⟩
  · obtain ⟨g, hg, k, hk, rfl⟩ := wantsB_mem hb ht
    exact trG_ok (bak_goodK hb hg) hk
  · have := wantsB_len hb b.goods fun g hg => hg
    unfold wantsB
    omega
def spTm (K : PySem.W.Frag) : Sp := fun vs H Q _ => ∃ x b a ds, vs = [x, .ref a] ∧ Th K H x (bakD b) ∧ bakB (bakD b) = true ∧ SqL K H a ((ds : List Int).map V.int) ∧ DarkOk ds b.lights.length ∧ ∀ H' o y, Same H H' → IsTm b ds o → stV o H' y → Q y H'
abbrev s_is_stretch : Stmt := top 35
theorem sc_is_stretch : FnScope ["bakery", "thing", "lights", "bound", "goods", "first", "last"] ["bakery", "thing"] (defScope s_is_stretch) := ⟨rfl, rfl, rfl, by decide +kernel, rfl, by decide +kernel, by decide +kernel⟩
def spIsSt (K : PySem.W.Frag) : Sp := fun vs H Q _ => ∃ x b t, ∃ i j : Nat, vs = [x, .ref t] ∧ Th K H x (bakD b) ∧ SqT K H t [.int (i : Int), .int (j : Int)] ∧ i ≤ j ∧ j < b.lights.length ∧ ∀ H', Same H H' → Q (.bl true) H'
abbrev s_wants_too_much : Stmt := top 36
theorem sc_wants_too_much : FnScope ["bakery", "dark", "thing", "first", "last", "wanted", "start", "end", "many"] ["bakery", "dark", "thing"] (defScope s_wants_too_much) := ⟨rfl, rfl, rfl, by decide +kernel, rfl, by decide +kernel, by decide +kernel⟩
def spWtm (K : PySem.W.Frag) : Sp := fun vs H Q _ => ∃ x b a ds t, ∃ i j : Nat, vs = [x, .ref a, .ref t] ∧ Th K H x (bakD b) ∧ bakB (bakD b) = true ∧ SqL K H a ((ds : List Int).map V.int) ∧ DarkOk ds b.lights.length ∧ SqT K H t [.int (i : Int), .int (j : Int)] ∧ i ≤ j ∧ j < b.lights.length ∧ ∀ H', Same H H' → Q (.bl (decide (roomS (roomsL b ds) i j < needW (wantsB b) i j))) H'
theorem ok_wants_too_much {f : Addr} {fd : FuncData} (F : Fun K "wants_too_much" "wants_too_much" s_wants_too_much f fd) (B : Bi mg) (D_look_at_bakery : Def P w K mg base "look_at_bakery" 6 ["thing"] (spLook K)) (D_look_at_days : Def P w K mg base "look_at_days" 3 ["bakery", "thing"] (spLookD K)) (D_is_stretch : Def P w K mg base "is_stretch" 3 ["bakery", "thing"] (spIsSt K)) (D_all_wants : Def P w K mg base "all_wants" 3 ["bakery"] (spAWants K)) (D_rooms_beside : Def P w K mg base "rooms_beside" 2 ["bakery", "dark"] (spRooms K)) : FnOk P w K mg base CX0 7 f fd ["bakery", "dark", "thing"] (spWtm K) := by
  refine F.ok sc_wants_too_much (fun vs H Q E h => ?_) (fun cdv A outer s H vs Q E hr h => ?_)
  · obtain ⟨_, _, _, _, _, _, _, rfl, _⟩ := h
    rfl
  · obtain ⟨x, b, ad, ds, t, i, j, rfl, hx, hb, hds, hok, ht0, hij, hj, q⟩ := h
    refine ⟨_, (pss_cons (ps_expr (pe_callD D_look_at_bakery hr (by rfl) (pa_cons (pv 0) pa_nil)))
 (pss_cons (ps_expr (pe_callD D_look_at_days hr (by rfl) (pa_cons (pv 0) (pa_cons (pv 1) pa_nil))))
 (pss_cons (ps_if (pt_not (pt_val (pe_callD D_is_stretch hr (by rfl) (pa_cons (pv 0) (pa_cons (pv 2) pa_nil))))) (pss_one (ps_ret pe_bl)) pss_nil)
 (pss_cons (ps_asg (pv 2) (pg_tup rfl (pgs_cons (pg_name (i := 3) sc_wants_too_much.nd rfl (Or.inr rfl)) (pgs_cons (pg_name (i := 4) sc_wants_too_much.nd rfl (Or.inr rfl)) pgs_nil))))
 (pss_cons (ps_set (i := 5) sc_wants_too_much.nd rfl (Or.inl rfl) (pe_callB (cr_sum rfl) (by rfl) B.sum (by decide +kernel) (pa_cons (pe_lc (own := [("start", 6), ("end", 7), ("many", 8)]) (g := (gTup K 3 (gCons (gName 6) (gCons (gName 7) (gCons (gName 8) gNil))))) rfl sc_wants_too_much.nd (pi_list (pe_callD D_all_wants hr (by rfl) (pa_cons (pv 0) pa_nil))) (blkOk_by (own := [("start", 6), ("end", 7), ("many", 8)]) (N := ["bakery", "dark", "thing", "first", "last", "wanted", "start", "end", "many"]) (sc := defScope s_wants_too_much) (by decide +kernel)) (fun _ _ _ _ _ => (pg_tup rfl (pgs_cons (pg_name (i := 6) sc_wants_too_much.nd rfl (Or.inl rfl)) (pgs_cons (pg_name (i := 7) sc_wants_too_much.nd rfl (Or.inl rfl)) (pgs_cons (pg_name (i := 8) sc_wants_too_much.nd rfl (Or.inl rfl)) pgs_nil))))) (fun _ _ _ _ _ => (pts_one (PW.pt (pw_and (pt_cmpR op_le (pv 3) (pv 6) (nomark _)) (pw_and1 (pt_cmpR op_le (pv 7) (pv 4) (nomark _))))))) (fun _ _ _ _ _ => (pv 8))) pa_nil)))
 (pss_one (ps_ret (pe_cmpR op_gt (pv 5) (pe_callB (cr_sum rfl) (by rfl) B.sum (by decide +kernel) (pa_cons (pe_slice sl_list (pe_callD D_rooms_beside hr (by rfl) (pa_cons (pv 0) (pa_cons (pv 1) pa_nil))) (po_some (pv 3)) (po_some (pe_op op_add (pv 4) pe_int))) pa_nil)) (nomark _))))))))), ?_⟩
    obtain ⟨w1, w2⟩ := wantsB_ok hb
    obtain ⟨⟨c1, c2⟩, _⟩ := bak_parts hb
    walk_at "wp"
    refine ⟨_, _, rfl, hx, hb, fun H1 S1 => ?_⟩
    walk_at "wp"
    refine ⟨x, b, ad, ds, rfl, hx.same S1, hb, S1.seq hds, hok, fun H2 S2 => ?_⟩
    walk_at "wp"
    have S12 := S1.trans S2
    refine ⟨x, b, t, i, j, rfl, hx.same S12, Same.tup S12 ht0, hij, hj, fun H3 S3 => ?_⟩
    have S13 := S12.trans S3
    walk_at "wp"
    refine ⟨_, Same.tup S13 ht0, rfl, ?_⟩
    walk_at "wp"
    refine ⟨x, b, rfl, hx.same S13, hb, fun H4 y S4 hy => ?_⟩
    obtain ⟨ay, vs, rfl, hay, hvs⟩ := hy
    have hvl := hvs.length
    refine ⟨ay, rfl, ⟨_, SqL.of hay⟩, fun D hD => ?_⟩
    have snoc : ∀ (U : List Tr) (u : Tr), needW (U ++ [u]) i j = needW U i j + needOf u (decide ((i : Int) ≤ u.1) && decide (u.2.1 ≤ (j : Int))) := fun U u => by
      unfold needW
      rw [List.map_append, List.sum_append]
      simp
    refine LcR.by (walk_list (xs := vs)) (fun k H' => Same H4 H' ∧ ∃ ns : List Int, H' D = some (.lst (ns.map V.int)) ∧ ns.length ≤ k ∧ ns.sum = needW ((wantsB b).take k) i j) ⟨same_upd hD, [], upd_same, Nat.le_refl _, rfl⟩ (fun k H' _ hI => hI.1.seq (SqL.of hay)) (fun k x H0 H5 hk hI yy => ?_) (fun H5 hI => ?_)
    · obtain ⟨rfl, hxk⟩ := yy
      obtain ⟨S5, ns, ea, hnl, hns⟩ := hI
      obtain ⟨p, u, rfl, hu, hp⟩ := hvs.get hxk
      have htk : (wantsB b).take (k + 1) = (wantsB b).take k ++ [u] := by rw [List.take_succ, hu]; rfl
      walk_at "wp"
      refine ⟨_, SqT.of (S5 _ _ hp), rfl, ?_⟩
      simp only [trV]
      walk_at "wp"
      have no : (decide ((i : Int) ≤ u.1) && decide (u.2.1 ≤ (j : Int))) = false → Same H4 H5 ∧ ∃ ns : List Int, H5 D = some (.lst (ns.map V.int)) ∧ ns.length ≤ k + 1 ∧ ns.sum = needW ((wantsB b).take (k + 1)) i j := fun e => by
        refine ⟨S5, ns, ea, by omega, ?_⟩
        rw [htk, snoc, e, hns]
        simp [needOf]
      refine ite2 (fun h1 => ite2 (fun h2 => ?_) (fun h2 => ?_)) (fun h1 => ?_)
      · refine ⟨_, ea, sz100l (by rw [List.length_map]; omega), same_mut S5 hD, ns ++ [u.2.2], by rw [upd_same, List.map_append]; rfl, by rw [List.length_append, List.length_singleton]; omega, ?_⟩
        rw [htk, snoc, h1, h2, List.sum_append, hns]
        simp [needOf]
      · exact no (by rw [Bool.eq_false_iff.mpr h2, Bool.and_false])
      · exact no (by rw [Bool.eq_false_iff.mpr h1, Bool.false_and])
    · obtain ⟨S5, ns, ea, hnl, hns⟩ := hI
      rw [hvl, List.take_of_length_le (Nat.le_refl _)] at hns
      refine ⟨_, SqL.of ea, ?_⟩
      have S15 := S13.trans (S4.trans S5)
      refine ⟨x, b, ad, ds, rfl, hx.same S15, hb, S15.seq hds, fun H6 p S6 hp => ?_⟩
      walk_at "wp"
      refine ⟨_, SqL.of hp, fun p2 n2 => ?_⟩
      rw [show cutV ((roomsL b ds).map V.int) (some (i : Int)) (some ((j : Int) + 1)) = (((roomsL b ds).drop i).take (j + 1 - i)).map V.int from ?_]
      · refine ⟨_, SqL.of upd_same, ?_⟩
        walk_at "wp"
        rw [hns]
        exact q _ (S15.trans (S6.trans (same_upd n2)))
      · rw [List.map_take, List.map_drop]
        exact cutV_nat _ i (j + 1)
end
end Bk

namespace Bk
open PySem PySem.Spec PyProof.Rows L2
local macro_rules | `(tactic| walk_at "wp") => `(tactic| try simp only [rGtT_r, tRaise1f, rSorTL_r, rSorTR_r, tCKw, tLc2_eq, rIntS_r, rLenS_r, rIxS_r, rInS_r, rSplit_r, iStr_eq, rNewStrs, iRng3_eq, rRng3_i, tM1, tFmt, iLT, tAugS, tScT2, rSetL_r, rSetOf2_r, rSorDT_r, rSetD, tDGet2, tDGet, tDNewT, rExtend_r, rSortU_r, rSetOf_r, rSortedSet_r, rNinr_r, rNeN_r, rCatL_r, rSlT_r, rListOf_r, rIsB_b, rNotB_b, tFmtO, tJs, tOst, tCallS, WE, tRaise2, rOne_i, rSorD_r, tDNewK, Int.zero_add, tNever, tFor_eq, tLc_eq, iList, iTup, iRng1_eq, rRng1_i, iRng2_eq, rRng2_i, iEnum_eq, rEnum_r, iZip_eq, rZip_r, tSl, tPart, tNoPart, rSlL_r, rCat_r, rIn_r, rNin_r, rRepr_r, iRevR, rMin_r, rShr_i, rOdd_i, rSetL_r, gSub, rRg1_i, rRg2_i, rInr_r, tAug, ipI_ii, tLstRg, tRg1, tRg2, gTup_r, gUnl_r, rInt1_b, rInt1_i, rRep_r, tStep_r, scal, tSeq, tNext, tAsg, tRet, tRetN, tIfS, tDrop, tCB, tCons, tNil, tVar, tOp, tUn, tC, rU_i, rI_ii, rI0_ii, rEq, rNe, tTest, tB, tAnd, tOr, tNot, tAndV, tOrV, tNotV, tIf, tChain, tLst, tTup, tBM, tBM0, rAppend_r, rIxL_r, rIxT_r, rMx_ii, rMn_ii, rLnL_r, rLnT_r, rIsD_int, rIsD_bool, rIsD_list, rIsD_tuple, tCall, gName, gNil_n, gCons_c, cxK, L2.start, List.map, List.replicate, List.length_cons, List.length_nil, List.cons_append, List.nil_append, List.append_nil, List.getElem?_cons_zero, List.getElem?_cons_succ, Option.some.injEq, exists_eq_left', exists_eq_left, V.int.injEq, V.bl.injEq, V.str.injEq, V.ref.injEq, List.cons.injEq, and_true, true_and, and_self, List.set, wipe, rAll_r, rSum_r, reduceCtorEq, decide_true, decide_false, reduceIte, ite_true, ite_false, if_true, if_false, Bool.false_eq_true, Bool.not_true, Bool.not_false])
local macro_rules | `(tactic| walk_at "shaped") => `(tactic| (simp only [rGtT_r, SeqAt.shaped, PyData.canLay0, PyData.canLayAll0, PyData.depth, PyData.depthAll]; rfl))
local macro_rules | `(tactic| walk_at "lay") => `(tactic| (simp only [rGtT_r, PyData.canLay0, PyData.canLayAll0]; rfl))
local macro_rules | `(tactic| walk_at "wg") => `(tactic| try simp only [gName, gTup_r, gCons_c, gNil_n, cxK, List.set, List.cons.injEq, and_true, true_and, exists_eq_left', exists_eq_left, List.length_cons, List.length_nil])
section
variable {P : Program} {w : World} {K : PySem.W.Frag} {mg : Str → Option Value} {base : Heap}
abbrev s_offers_on : Stmt := top 39
theorem sc_offers_on : FnScope ["bakery", "prices", "baked", "lights", "bound", "goods", "offers", "each", "offered", "days", "life", "given", "cost"] ["bakery", "prices", "baked"] (defScope s_offers_on) := ⟨rfl, rfl, rfl, by decide +kernel, rfl, by decide +kernel, by decide +kernel⟩
def tupO (o : Off) : HO := .tup [.int o.1, .int o.2]
/-- offers in a list of new tuples -/
structure OffL (H : Hp) (D : Addr) (L : List Off) : Prop where
  ex : ∃ ps : List (Addr × Off), H D = some (.lst (ps.map fun z => V.ref z.1)) ∧ ps.map (·.2) = L ∧ ∀ z ∈ ps, H z.1 = some (tupO z.2)
theorem OffL.same {H H' : Hp} {D : Addr} {L : List Off} (h : OffL H D L) (s : Same H H') : OffL H' D L := by
  obtain ⟨ps, e1, e2, e3⟩ := h.ex
  exact ⟨ps, s _ _ e1, e2, fun z hz => s _ _ (e3 z hz)⟩
theorem OffL.snoc {H : Hp} {D : Addr} {L : List Off} (h : OffL H D L) {p : Addr} (hp : H p = none) (o : Off) : ∃ xs, upd H p (tupO o) D = some (.lst xs) ∧ xs.length = L.length ∧ OffL (upd (upd H p (tupO o)) D (.lst (xs ++ [.ref p]))) D (L ++ [o]) := by
  obtain ⟨ps, e1, e2, e3⟩ := h.ex
  have n1 : D ≠ p := fun z => by rw [← z, e1] at hp; cases hp
  refine ⟨_, by rw [upd_ne n1]; exact e1, by rw [← e2, List.length_map, List.length_map], ⟨ps ++ [(p, o)], by rw [upd_same, List.map_append]; rfl, by rw [List.map_append, e2]; rfl, fun z hz => ?_⟩⟩
  rcases List.mem_append.mp hz with hz | hz
  · have e := e3 z hz
    have n2 : z.1 ≠ D := fun y => by rw [y, e1] at e; cases e
    have n3 : z.1 ≠ p := fun y => by rw [y, hp] at e; cases e
    rw [upd_ne n2, upd_ne n3]
    exact e
  · rw [List.mem_singleton.mp hz, upd_ne (Ne.symm n1), upd_same]
theorem Th.prices {K : PySem.W.Frag} {H : Hp} {x : V} {W : List (List Int)} (h : Th K H x (pricesD W)) : ∃ (p : Addr) (xs : List V), x = .ref p ∧ SqL K H p xs ∧ xs.length = W.length ∧ ∀ (q : Nat) v, xs[q]? = some v → ∃ (a : Addr) (w : List Int), v = V.ref a ∧ W[q]? = some w ∧ SqL K H a (w.map V.int) := by
  cases h with
  | lst hl ht =>
    refine ⟨_, _, rfl, hl, by rw [ht.length, List.length_map], fun q v hv => ?_⟩
    obtain ⟨d, hd, hv2⟩ := ht.get hv
    rw [List.getElem?_map] at hd
    obtain ⟨w, hw, rfl⟩ := Option.map_eq_some_iff.mp hd
    cases hv2 with
    | lst h1 h2 => exact ⟨_, w, rfl, hw, by have := h2.intsV; subst this; exact h1⟩
def OfI (v0 v1 v2 v3 v4 v5 : V) (D : Addr) (H : Hp) (L : List Off) (σ : L2.St) (H' : Hp) : Prop := ∃ (y7 y8 y9 y10 y11 y12 : Option V), σ = [some v0, some v1, some v2, some v3, some v4, some v5, some (.ref D), y7, y8, y9, y10, y11, y12] ∧ Same H H' ∧ OffL H' D L
def OgI (v0 v1 v2 v3 v4 v5 v7 v8 v9 v10 : V) (D : Addr) (H : Hp) (L : List Off) (σ : L2.St) (H' : Hp) : Prop := ∃ (y11 y12 : Option V), σ = [some v0, some v1, some v2, some v3, some v4, some v5, some (.ref D), some v7, some v8, some v9, some v10, y11, y12] ∧ Same H H' ∧ OffL H' D L
def PrOk (b : Bak) (W : List (List Int)) : Prop := W.length = b.goods.length ∧ ∀ w ∈ W, w.length = b.lights.length
def spOffers (K : PySem.W.Frag) : Sp := fun vs H Q _ => ∃ x b y W, ∃ j : Nat, vs = [x, y, .int (j : Int)] ∧ Th K H x (bakD b) ∧ bakB (bakD b) = true ∧ Th K H y (pricesD W) ∧ PrOk b W ∧ j < b.lights.length ∧ ∀ H' D, Same H H' → H D = none → OffL H' D (offB b.goods W j b.lights.length b.goods.length) → Q (.ref D) H'
theorem ok_offers_on {f : Addr} {fd : FuncData} (F : Fun K "offers_on" "offers_on" s_offers_on f fd) (B : Bi mg) (Bz : mg "zip" = none) (D_loaf_price : Def P w K mg base "loaf_price" 2 ["good", "baked", "given"] (spLoafP K)) : FnOk P w K mg base CX0 3 f fd ["bakery", "prices", "baked"] (spOffers K) := by
  refine F.ok sc_offers_on (fun vs H Q E h => ?_) (fun cdv A outer s H vs Q E hr h => ?_)
  · obtain ⟨_, _, _, _, _, rfl, _⟩ := h
    rfl
  · obtain ⟨x, b, y, W, j, rfl, hx, hb, hy, ⟨hWl, hWe⟩, hj, q⟩ := h
    refine ⟨_, (pss_cons (ps_asg (pv 0) (pg_tup rfl (pgs_cons (pg_name (i := 3) sc_offers_on.nd rfl (Or.inl rfl)) (pgs_cons (pg_name (i := 4) sc_offers_on.nd rfl (Or.inl rfl)) (pgs_cons (pg_name (i := 5) sc_offers_on.nd rfl (Or.inl rfl)) pgs_nil)))))
 (pss_cons (ps_set (i := 6) sc_offers_on.nd rfl (Or.inl rfl) (pe_lst pa_nil))
 (pss_cons (ps_for PassesOwn.never rfl (pi_zip (by rfl) Bz (pa_cons (pv 5) (pa_cons (pv 1) pa_nil))) (pg_tup rfl (pgs_cons (pg_name (i := 7) sc_offers_on.nd rfl (Or.inl rfl)) (pgs_cons (pg_name (i := 8) sc_offers_on.nd rfl (Or.inl rfl)) pgs_nil))) (pss_cons (ps_asg (pv 7) (pg_tup rfl (pgs_cons (pg_name (i := 9) sc_offers_on.nd rfl (Or.inl rfl)) (pgs_cons (pg_name (i := 10) sc_offers_on.nd rfl (Or.inl rfl)) pgs_nil))))
 (pss_one (ps_for PassesOwn.never rfl (pi_range1 (by rfl) B.range (pa_cons (pe_callB call_lnL (by rfl) B.len (by decide +kernel) (pa_cons (pv 9) pa_nil)) pa_nil)) (pg_name (i := 11) sc_offers_on.nd rfl (Or.inl rfl)) (pss_cons (ps_set (i := 12) sc_offers_on.nd rfl (Or.inl rfl) (pe_callD D_loaf_price hr (by rfl) (pa_cons (pv 7) (pa_cons (pv 2) (pa_cons (pv 11) pa_nil)))))
 (pss_one (ps_if (PW.pt (pw_and (pt_cmpR op_notN (pv 12) pe_non (nomark _)) (pw_and1 (pt_cmpR op_gt (pe_ix ix_list (pv 8) (pv 11) (fun _ _ => rfl)) (pv 12) (nomark _))))) (pss_one (ps_expr (pe_bm PySem.F.plainAttrs_list PySem.F.slot_list_append PySem.F.type_list_append mt_append (pv 6) (pa_cons (pe_tup (pa_cons (pe_op op_sub (pe_ix ix_list (pv 8) (pv 11) (fun _ _ => rfl)) (pv 12)) (pa_cons (pe_ix ix_tup (pe_ix ix_list (pv 9) (pv 11) (fun _ _ => rfl)) pe_int (fun _ _ => rfl)) pa_nil))) pa_nil)))) pss_nil)))))))
 (pss_one (ps_ret (pv 6)))))), ?_⟩
    obtain ⟨⟨c1, c2⟩, c3, _, ⟨c5, c6⟩, c7⟩ := bak_parts hb
    obtain ⟨a, l, v2, ga, xl, xg, rfl, ht, hl, hla, h2, hgl, hga⟩ := Th.bak hx
    obtain ⟨pa, xp, rfl, hp, hpl, hpe⟩ := hy.prices
    have hxg : xg.length = b.goods.length := by rw [hga.length, List.length_map]
    walk_at "wp"
    refine ⟨_, ht, rfl, ?_⟩
    walk_at "wp"
    refine ⟨Nat.zero_le _, fun D hD => ?_⟩
    have S0 := same_upd (o := .lst []) hD
    have E0 : OffL (upd H D (.lst [])) D [] := ⟨⟨[], upd_same, rfl, fun z hz => nomatch hz⟩⟩
    generalize upd H D (.lst []) = H0 at S0 E0 ⊢
    refine ⟨_, _, S0.seq hgl, S0.seq hp, ?_⟩
    refine LoopR.by (walk_zip (n := b.goods.length) (xs := xg) (ys := xp) (by omega)) (fun i σ H' => OfI (.ref a) (.ref pa) (.int (j : Int)) (.ref l) v2 (.ref ga) D H (offB b.goods W j b.lights.length i) σ H') ⟨none, none, none, none, none, none, rfl, S0, E0⟩ (fun i σ H' _ hI => by obtain ⟨_, _, _, _, _, _, _, S, _⟩ := hI; exact ⟨S.seq hgl, S.seq hp⟩) (fun i v σ H1 H2 hi hI yy => ?_) (fun σ H1 hI => ?_)
    · obtain ⟨y7, y8, y9, y10, y11, y12, rfl, S1, hO⟩ := hI
      have S2 := ypair_same yy
      obtain ⟨T, z1, z2, rfl, hT, rfl, e1, e2⟩ := yy
      have e1 : xg[i]? = some z1 := e1
      have e2 : xp[i]? = some z2 := e2
      have eT : upd H1 T (.tup [z1, z2]) T = some (.tup [z1, z2]) := upd_same
      generalize upd H1 T (.tup [z1, z2]) = H2 at S2 eT ⊢
      obtain ⟨gd0, hgd, hz⟩ := hga.get e1
      rw [List.getElem?_map] at hgd
      obtain ⟨g, hgg, rfl⟩ := Option.map_eq_some_iff.mp hgd
      obtain ⟨k1, k2, k3⟩ := c7 g (List.mem_of_getElem? hgg)
      obtain ⟨tg, ad, xs, rfl, htg, hsd, hda⟩ := hz.good
      have hxl : xs.length = g.days.length := by rw [hda.length, List.length_map]
      obtain ⟨aw, w, rfl, hw, hsw⟩ := hpe _ _ e2
      have hwl : w.length = b.lights.length := hWe w (List.mem_of_getElem? hw)
      have S12 := S1.trans S2
      have hO2 := hO.same S2
      have eg : goodN b.goods i = g := by unfold goodN; rw [List.getD_eq_getElem?_getD, hgg]; rfl
      have ew : W.getD i [] = w := by rw [List.getD_eq_getElem?_getD, hw]; rfl
      walk_at "wp"
      refine ⟨_, SqT.of eT, rfl, ?_⟩
      walk_at "wg"
      walk_at "wp"
      refine ⟨_, Same.tup S12 htg, rfl, ?_⟩
      walk_at "wp"
      refine ⟨_, S12.seq hsd, ?_⟩
      rw [hxl]
      refine ⟨by omega, by omega, ?_⟩
      rw [Int.toNat_natCast]
      refine LoopR.by walk_range (fun m σ H' => OgI (.ref a) (.ref pa) (.int (j : Int)) (.ref l) v2 (.ref ga) (.ref tg) (.ref aw) (.ref ad) (optV g.life) D H (offB b.goods W j b.lights.length i ++ offG g w j m) σ H') ⟨y11, y12, rfl, S12, by rw [show offG g w j 0 = [] from rfl, List.append_nil]; exact hO2⟩ (fun _ _ _ _ _ => trivial) (fun m v σ H3 H4 hm hI yy => ?_) (fun σ H3 hI => ?_)
      · obtain ⟨rfl, rfl⟩ := yy
        obtain ⟨y11, y12, rfl, S3, hO3⟩ := hI
        have hd : g.days[m]? = some (g.days[m]'(by omega)) := List.getElem?_eq_getElem (by omega)
        have hwm : w[m]? = some (w[m]'(by omega)) := List.getElem?_eq_getElem (by omega)
        generalize g.days[m]'(by omega) = d at hd
        generalize w[m]'(by omega) = pr at hwm
        have ewn : wantN g m = d.want := by unfold wantN; rw [hd]
        have erw : rowF w m = pr := by unfold rowF; rw [List.getD_eq_getElem?_getD, hwm]; rfl
        walk_at "wp"
        refine ⟨_, g, j, m, rfl, hz.same S3, by omega, by omega, fun H5 S5 => ?_⟩
        have S35 := S3.trans S5
        have hO5 := hO3.same S5
        rw [offG_succ, ewn, erw]
        cases hc : loafP g j m with
        | none =>
          simp only [optV]
          walk_at "wp"
          refine ⟨_, _, rfl, S35, ?_⟩
          rw [show offK none pr d.want = [] from rfl, List.append_nil]
          exact hO5
        | some c =>
          simp only [optV]
          walk_at "wp"
          refine ⟨_, _, (S35).seq hsw, atI_nat (j := m) (by rw [List.getElem?_map, hwm]; rfl), ?_⟩
          walk_at "wp"
          by_cases hcp : c < pr
          · rw [if_pos (decide_eq_true hcp)]
            obtain ⟨vd, hv, hvd⟩ := hda.get' (i := m) (d := dayD d) (by rw [List.getElem?_map, hd]; rfl)
            obtain ⟨td, rfl, htd⟩ := hvd.day
            obtain ⟨ps0, eps, _, _⟩ := hO5.ex
            refine ⟨tyL (SqL.of eps), _, _, S35.seq hsw, atI_nat (j := m) (by rw [List.getElem?_map, hwm]; rfl), ?_⟩
            walk_at "wp"
            refine ⟨_, _, S35.seq hsd, atI_nat (j := m) hv, ?_⟩
            walk_at "wp"
            refine ⟨_, _, Same.tup S35 htd, atI_nat (j := 0) rfl, sz100 (by decide), fun p6 hp6 => ?_⟩
            obtain ⟨xs6, ex6, hx6, hO6⟩ := hO5.snoc hp6 (pr - c, d.want)
            have hl1 := offB_len b.goods W j b.lights.length i
            have hl2 := offG_len g w j m
            have hin : i * b.lights.length ≤ 2 * 40 := Nat.mul_le_mul (by omega) c2
            refine ⟨xs6, ex6, sz100l (by rw [hx6, List.length_append]; omega), _, _, rfl, same_mut (S35.trans (same_upd hp6)) hD, ?_⟩
            rw [show offK (some c) pr d.want = [(pr - c, d.want)] from if_pos hcp, ← List.append_assoc]
            exact hO6
          · rw [if_neg (by rw [decide_eq_true_eq]; exact hcp)]
            refine ⟨_, _, rfl, S35, ?_⟩
            rw [show offK (some c) pr d.want = [] from if_neg hcp, List.append_nil]
            exact hO5
      · obtain ⟨y11, y12, rfl, S3, hO3⟩ := hI
        rw [k1] at hO3
        refine ⟨_, _, _, _, _, _, rfl, S3, ?_⟩
        rw [offB_succ, eg, ew]
        exact hO3
    · obtain ⟨y7, y8, y9, y10, y11, y12, rfl, S1, hO⟩ := hI
      walk_at "wp"
      exact q _ D S1 hD hO
end
end Bk

namespace Bk
open PySem PySem.Spec PyProof.Rows L2
local macro_rules | `(tactic| walk_at "wp") => `(tactic| try simp only [rGtT_r, tRaise1f, rSorTL_r, rSorTR_r, tCKw, tLc2_eq, rIntS_r, rLenS_r, rIxS_r, rInS_r, rSplit_r, iStr_eq, rNewStrs, iRng3_eq, rRng3_i, tM1, tFmt, iLT, tAugS, tScT2, rSetL_r, rSetOf2_r, rSorDT_r, rSetD, tDGet2, tDGet, tDNewT, rExtend_r, rSortU_r, rSetOf_r, rSortedSet_r, rNinr_r, rNeN_r, rCatL_r, rSlT_r, rListOf_r, rIsB_b, rNotB_b, tFmtO, tJs, tOst, tCallS, WE, tRaise2, rOne_i, rSorD_r, tDNewK, Int.zero_add, tNever, tFor_eq, tLc_eq, iList, iTup, iRng1_eq, rRng1_i, iRng2_eq, rRng2_i, iEnum_eq, rEnum_r, iZip_eq, rZip_r, tSl, tPart, tNoPart, rSlL_r, rCat_r, rIn_r, rNin_r, rRepr_r, iRevR, rMin_r, rShr_i, rOdd_i, rSetL_r, gSub, rRg1_i, rRg2_i, rInr_r, tAug, ipI_ii, tLstRg, tRg1, tRg2, gTup_r, gUnl_r, rInt1_b, rInt1_i, rRep_r, tStep_r, scal, tSeq, tNext, tAsg, tRet, tRetN, tIfS, tDrop, tCB, tCons, tNil, tVar, tOp, tUn, tC, rU_i, rI_ii, rI0_ii, rEq, rNe, tTest, tB, tAnd, tOr, tNot, tAndV, tOrV, tNotV, tIf, tChain, tLst, tTup, tBM, tBM0, rAppend_r, rIxL_r, rIxT_r, rMx_ii, rMn_ii, rLnL_r, rLnT_r, rIsD_int, rIsD_bool, rIsD_list, rIsD_tuple, tCall, gName, gNil_n, gCons_c, cxK, L2.start, List.map, List.replicate, List.length_cons, List.length_nil, List.cons_append, List.nil_append, List.append_nil, List.getElem?_cons_zero, List.getElem?_cons_succ, Option.some.injEq, exists_eq_left', exists_eq_left, V.int.injEq, V.bl.injEq, V.str.injEq, V.ref.injEq, List.cons.injEq, and_true, true_and, and_self, List.set, wipe, rAll_r, rSum_r, reduceCtorEq, decide_true, decide_false, reduceIte, ite_true, ite_false, if_true, if_false, Bool.false_eq_true, Bool.not_true, Bool.not_false])
local macro_rules | `(tactic| walk_at "shaped") => `(tactic| (simp only [rGtT_r, SeqAt.shaped, PyData.canLay0, PyData.canLayAll0, PyData.depth, PyData.depthAll]; rfl))
local macro_rules | `(tactic| walk_at "lay") => `(tactic| (simp only [rGtT_r, PyData.canLay0, PyData.canLayAll0]; rfl))
local macro_rules | `(tactic| walk_at "wg") => `(tactic| try simp only [gName, gTup_r, gCons_c, gNil_n, cxK, List.set, List.cons.injEq, and_true, true_and, exists_eq_left', exists_eq_left, List.length_cons, List.length_nil])
section
variable {P : Program} {w : World} {K : PySem.W.Frag} {mg : Str → Option Value} {base : Heap}
abbrev s_gain_on : Stmt := top 40
theorem sc_gain_on : FnScope ["bakery", "prices", "day", "room", "total", "more", "want", "many"] ["bakery", "prices", "day"] (defScope s_gain_on) := ⟨rfl, rfl, rfl, by decide +kernel, rfl, by decide +kernel, by decide +kernel⟩
def gainV (b : Bak) (W : List (List Int)) (j : Nat) : Int := pfill (roomB b) (sortO (offB b.goods W j b.lights.length b.goods.length))
theorem wantN_in {g : Good} (h : ∀ d ∈ g.days, dayB (dayD d) = true) (k : Nat) : 0 ≤ wantN g k ∧ wantN g k ≤ 1000000000 := by
  unfold wantN
  cases e : g.days[k]? with
  | none => dsimp only; omega
  | some d => exact (nums_of_day (h d (List.mem_of_getElem? e))).1
theorem goodN_ok {b : Bak} (hb : bakB (bakD b) = true) (q : Nat) : ∀ d ∈ (goodN b.goods q).days, dayB (dayD d) = true := fun d hd => by
  obtain ⟨_, _, _, _, c7⟩ := bak_parts hb
  unfold goodN at hd
  rw [List.getD_eq_getElem?_getD] at hd
  cases e : b.goods[q]? with
  | none => rw [e] at hd; exact absurd hd (by simp)
  | some g => rw [e] at hd; exact (c7 g (List.mem_of_getElem? e)).2.2 d hd
theorem off_in {b : Bak} (hb : bakB (bakD b) = true) {W : List (List Int)} {j n i : Nat} : ∀ o ∈ offB b.goods W j n i, 0 < o.1 ∧ 0 ≤ o.2 ∧ o.2 ≤ 1000000000 := fun o ho => by
  obtain ⟨q, _, ho⟩ := List.mem_flatMap.mp ho
  obtain ⟨k, _, ho⟩ := List.mem_flatMap.mp ho
  have hw := wantN_in (goodN_ok hb q) k
  unfold offK at ho
  split at ho
  · split at ho
    · rw [List.mem_singleton.mp ho]
      dsimp only
      omega
    · cases ho
  · cases ho
theorem sum_nonneg {l : List Int} (h : ∀ x ∈ l, 0 ≤ x) : 0 ≤ l.sum := by
  induction l with
  | nil => exact Int.le_refl 0
  | cons x t ih =>
    rw [List.sum_cons]
    have := h x List.mem_cons_self
    have := ih fun y hy => h y (List.mem_cons_of_mem _ hy)
    omega
theorem room_nonneg {b : Bak} (hb : bakB (bakD b) = true) : 0 ≤ roomB b := by
  obtain ⟨_, _, c4, _, c7⟩ := bak_parts hb
  unfold roomB
  cases e : b.bound with
  | some z =>
    rw [e] at c4
    dsimp only
    simp only [boundB, optD, numD, Bool.and_eq_true, decide_eq_true_eq] at c4
    omega
  | none =>
    refine sum_nonneg fun x hx => ?_
    obtain ⟨l, hl, hx⟩ := List.mem_flatten.mp hx
    obtain ⟨g, hg, rfl⟩ := List.mem_map.mp hl
    obtain ⟨d, hd, rfl⟩ := List.mem_map.mp hx
    exact (nums_of_day ((c7 g hg).2.2 d hd)).1.1
def GaI (v0 v1 v2 : V) (Z : List Off) (z : Int) (H : Hp) (i : Nat) (σ : L2.St) (H' : Hp) : Prop := ∃ (r t : Int) (y5 y6 y7 : Option V), σ = [some v0, some v1, some v2, some (.int r), some (.int t), y5, y6, y7] ∧ Same H H' ∧ t + pfill r (Z.drop i) = z ∧ 0 ≤ r
def spGainOn (K : PySem.W.Frag) : Sp := fun vs H Q _ => ∃ x b y W, ∃ j : Nat, vs = [x, y, .int (j : Int)] ∧ Th K H x (bakD b) ∧ bakB (bakD b) = true ∧ Th K H y (pricesD W) ∧ PrOk b W ∧ j < b.lights.length ∧ ∀ H', Same H H' → Q (.int (gainV b W j)) H'
theorem ok_gain_on {f : Addr} {fd : FuncData} (F : Fun K "gain_on" "gain_on" s_gain_on f fd) (B : Bi mg) (Bs : mg "sorted" = none) (D_room_of_day : Def P w K mg base "room_of_day" 1 ["bakery"] (spRoom K)) (D_offers_on : Def P w K mg base "offers_on" 3 ["bakery", "prices", "baked"] (spOffers K)) : FnOk P w K mg base CX0 4 f fd ["bakery", "prices", "day"] (spGainOn K) := by
  refine F.ok sc_gain_on (fun vs H Q E h => ?_) (fun cdv A outer s H vs Q E hr h => ?_)
  · obtain ⟨_, _, _, _, _, rfl, _⟩ := h
    rfl
  · obtain ⟨x, b, y, W, j, rfl, hx, hb, hy, hW, hj, q⟩ := h
    refine ⟨_, (pss_cons (ps_set (i := 3) sc_gain_on.nd rfl (Or.inl rfl) (pe_callD D_room_of_day hr (by rfl) (pa_cons (pv 0) pa_nil)))
 (pss_cons (ps_set (i := 4) sc_gain_on.nd rfl (Or.inl rfl) pe_int)
 (pss_cons (ps_for PassesOwn.never rfl (pi_list (pe_callBK (cr_sorTR (K := K) rfl hr.units) (by rfl) Bs (by decide +kernel) (pa_cons (pe_callD D_offers_on hr (by rfl) (pa_cons (pv 0) (pa_cons (pv 1) (pa_cons (pv 2) pa_nil)))) pa_nil) (pk_cons pe_bl pk_nil))) (pg_tup rfl (pgs_cons (pg_name (i := 5) sc_gain_on.nd rfl (Or.inl rfl)) (pgs_cons (pg_name (i := 6) sc_gain_on.nd rfl (Or.inl rfl)) pgs_nil))) (pss_cons (ps_set (i := 7) sc_gain_on.nd rfl (Or.inl rfl) (pe_callB (call_mn rfl) (by rfl) B.min (by decide +kernel) (pa_cons (pv 6) (pa_cons (pv 3) pa_nil))))
 (pss_cons (ps_aug (i := 4) sc_gain_on.nd rfl (Or.inl rfl) (pe_op op_mul (pv 5) (pv 7)) ip_add)
 (pss_one (ps_aug (i := 3) sc_gain_on.nd rfl (Or.inl rfl) (pv 7) ip_sub)))))
 (pss_one (ps_ret (pv 4)))))), ?_⟩
    walk_at "wp"
    refine ⟨x, b, rfl, hx, hb, fun H1 S1 => ?_⟩
    walk_at "wp"
    refine ⟨x, b, y, W, j, rfl, hx.same S1, hb, hy.same S1, hW, hj, fun H2 D S2 hD hO => ?_⟩
    obtain ⟨ps, eD, eps, hps⟩ := hO.ex
    have S2 := S1.trans S2
    walk_at "wp"
    refine ⟨ps.map fun z => (z.1, [z.2.1, z.2.2]), ?_, fun q hq => ?_, fun q hq => ?_, fun L' pl hperm hsrt hpl => ?_⟩
    · rw [List.map_map]
      exact SqL.of eD
    · obtain ⟨z, hz, rfl⟩ := List.mem_map.mp hq
      exact hps z hz
    · obtain ⟨z, hz, rfl⟩ := List.mem_map.mp hq
      exact List.cons_ne_nil _ _
    obtain ⟨zs', hzp, rfl⟩ := perm_map_inv hperm.symm ps rfl
    rw [List.map_map, show List.map ((fun q : Addr × List Int => V.ref q.1) ∘ fun z : Addr × Off => (z.1, [z.2.1, z.2.2])) zs' = zs'.map fun z => V.ref z.1 from rfl]
    have U2 := same_upd (o := .lst (zs'.map fun z => V.ref z.1)) hpl
    have EL : upd H2 pl (.lst (zs'.map fun z => V.ref z.1)) pl = some (.lst (zs'.map fun z => V.ref z.1)) := upd_same
    generalize upd H2 pl (.lst (zs'.map fun z => V.ref z.1)) = H3 at U2 EL ⊢
    have hd : DescO (zs'.map (·.2)) := by
      unfold DescO
      rw [List.pairwise_map] at hsrt ⊢
      refine hsrt.imp fun h => ?_
      have := pair_le h
      omega
    have eZ : zs'.map (·.2) = sortO (offB b.goods W j b.lights.length b.goods.length) := sortO_eq (by rw [← eps]; exact (hzp.map _).symm) hd
    have htup : ∀ z ∈ zs', H3 z.1 = some (tupO z.2) := fun z hz => U2 _ _ (hps z (hzp.mem_iff.mpr hz))
    refine ⟨⟨_, SqL.of EL⟩, ?_⟩
    refine LoopR.by (walk_list (xs := zs'.map fun z => V.ref z.1)) (GaI x y (.int (j : Int)) (zs'.map (·.2)) (gainV b W j) H3) ⟨_, _, _, _, _, rfl, Same.refl _, by rw [List.drop_zero, eZ, Int.zero_add]; rfl, room_nonneg hb⟩ (fun i σ H' _ hI => by obtain ⟨_, _, _, _, _, _, S, _⟩ := hI; exact S.seq (SqL.of EL)) (fun i v σ H0 H4 hi hI yy => ?_) (fun σ H4 hI => ?_)
    · obtain ⟨rfl, hxi⟩ := yy
      obtain ⟨r, t, y5, y6, y7, rfl, S4, eq, hr0⟩ := hI
      rw [List.length_map] at hi
      have hzi : zs'[i]? = some zs'[i] := List.getElem?_eq_getElem hi
      have hzm := List.getElem_mem hi
      rw [List.getElem?_map, hzi] at hxi
      cases hxi
      have hdr : (zs'.map (·.2)).drop i = zs'[i].2 :: (zs'.map (·.2)).drop (i + 1) := by
        rw [List.drop_eq_getElem_cons (by rw [List.length_map]; exact hi), List.getElem_map]
      rw [hdr, pfill_cons] at eq
      generalize zs'[i] = z at hzi hzm eq
      have e1 := S4 _ _ (htup z hzm)
      walk_at "wp"
      refine ⟨_, SqT.of e1, rfl, ?_⟩
      walk_at "wg"
      walk_at "wp"
      have hw := off_in hb (W := W) (j := j) (n := b.lights.length) (i := b.goods.length) z.2 (by rw [← eps]; exact List.mem_map_of_mem (hzp.mem_iff.mpr hzm))
      have em : (if r < z.2.2 then r else z.2.2) = min z.2.2 r := by split <;> omega
      rw [em]
      refine ⟨.inr ⟨by omega, by omega⟩, _, _, _, _, _, rfl, S4, ?_, by omega⟩
      omega
    · obtain ⟨r, t, y5, y6, y7, rfl, S4, eq, hr0⟩ := hI
      rw [List.length_map, List.drop_of_length_le (by rw [List.length_map]; exact Nat.le_refl _)] at eq
      have et : t = gainV b W j := by
        rw [← eq]
        exact (Int.add_zero t).symm
      walk_at "wp"
      rw [et]
      exact q _ (S2.trans (U2.trans S4))
end
end Bk

namespace Bk
open PySem PySem.Spec PyProof.Rows L2
local macro_rules | `(tactic| walk_at "wp") => `(tactic| try simp only [rGtT_r, tRaise1f, rSorTL_r, rSorTR_r, tCKw, tLc2_eq, rIntS_r, rLenS_r, rIxS_r, rInS_r, rSplit_r, iStr_eq, rNewStrs, iRng3_eq, rRng3_i, tM1, tFmt, iLT, tAugS, tScT2, rSetL_r, rSetOf2_r, rSorDT_r, rSetD, tDGet2, tDGet, tDNewT, rExtend_r, rSortU_r, rSetOf_r, rSortedSet_r, rNinr_r, rNeN_r, rCatL_r, rSlT_r, rListOf_r, rIsB_b, rNotB_b, tFmtO, tJs, tOst, tCallS, WE, tRaise2, rOne_i, rSorD_r, tDNewK, Int.zero_add, tNever, tFor_eq, tLc_eq, iList, iTup, iRng1_eq, rRng1_i, iRng2_eq, rRng2_i, iEnum_eq, rEnum_r, iZip_eq, rZip_r, tSl, tPart, tNoPart, rSlL_r, rCat_r, rIn_r, rNin_r, rRepr_r, iRevR, rMin_r, rShr_i, rOdd_i, rSetL_r, gSub, rRg1_i, rRg2_i, rInr_r, tAug, ipI_ii, tLstRg, tRg1, tRg2, gTup_r, gUnl_r, rInt1_b, rInt1_i, rRep_r, tStep_r, scal, tSeq, tNext, tAsg, tRet, tRetN, tIfS, tDrop, tCB, tCons, tNil, tVar, tOp, tUn, tC, rU_i, rI_ii, rI0_ii, rEq, rNe, tTest, tB, tAnd, tOr, tNot, tAndV, tOrV, tNotV, tIf, tChain, tLst, tTup, tBM, tBM0, rAppend_r, rIxL_r, rIxT_r, rMx_ii, rMn_ii, rLnL_r, rLnT_r, rIsD_int, rIsD_bool, rIsD_list, rIsD_tuple, tCall, gName, gNil_n, gCons_c, cxK, L2.start, List.map, List.replicate, List.length_cons, List.length_nil, List.cons_append, List.nil_append, List.append_nil, List.getElem?_cons_zero, List.getElem?_cons_succ, Option.some.injEq, exists_eq_left', exists_eq_left, V.int.injEq, V.bl.injEq, V.str.injEq, V.ref.injEq, List.cons.injEq, and_true, true_and, and_self, List.set, wipe, rAll_r, rSum_r, reduceCtorEq, decide_true, decide_false, reduceIte, ite_true, ite_false, if_true, if_false, Bool.false_eq_true, Bool.not_true, Bool.not_false])
local macro_rules | `(tactic| walk_at "shaped") => `(tactic| (simp only [rGtT_r, SeqAt.shaped, PyData.canLay0, PyData.canLayAll0, PyData.depth, PyData.depthAll]; rfl))
local macro_rules | `(tactic| walk_at "lay") => `(tactic| (simp only [rGtT_r, PyData.canLay0, PyData.canLayAll0]; rfl))
local macro_rules | `(tactic| walk_at "wg") => `(tactic| try simp only [gName, gTup_r, gCons_c, gNil_n, cxK, List.set, List.cons.injEq, and_true, true_and, exists_eq_left', exists_eq_left, List.length_cons, List.length_nil])
section
variable {P : Program} {w : World} {K : PySem.W.Frag} {mg : Str → Option Value} {base : Heap}
abbrev s_worth_of_wants : Stmt := top 41
theorem sc_worth_of_wants : FnScope ["bakery", "prices", "lights", "bound", "goods", "wants", "offered", "days", "life", "day", "price", "want"] ["bakery", "prices"] (defScope s_worth_of_wants) := ⟨rfl, rfl, rfl, by decide +kernel, rfl, by decide +kernel, by decide +kernel⟩
theorem ix_tupC {X : Cx} {K : PySem.W.Frag} (hK : X.K = K) : IxR X (rIxT K) := by subst hK; exact ix_tup
def wpG (g : Good) (w : List Int) (m : Nat) : List Off := (List.range m).flatMap fun k => [(wantN g k, rowF w k)]
def wpB (gs : List Good) (W : List (List Int)) (n i : Nat) : List Off := (List.range i).flatMap fun q => wpG (goodN gs q) (W.getD q []) n
def worthG (g : Good) (w : List Int) (m : Nat) : Int := ((wpG g w m).map fun o => o.1 * o.2).sum
def worthB (gs : List Good) (W : List (List Int)) (n i : Nat) : Int := ((wpB gs W n i).map fun o => o.1 * o.2).sum
theorem wpG_succ (g : Good) (w : List Int) (m : Nat) : wpG g w (m + 1) = wpG g w m ++ [(wantN g m, rowF w m)] := flat_next _ m
theorem wpB_succ (gs : List Good) (W : List (List Int)) (n i : Nat) : wpB gs W n (i + 1) = wpB gs W n i ++ wpG (goodN gs i) (W.getD i []) n := flat_next _ i
theorem worthG_succ (g : Good) (w : List Int) (m : Nat) : worthG g w (m + 1) = worthG g w m + wantN g m * rowF w m := by
  unfold worthG
  rw [wpG_succ, List.map_append, List.sum_append]
  simp
theorem worthB_succ (gs : List Good) (W : List (List Int)) (n i : Nat) : worthB gs W n (i + 1) = worthB gs W n i + worthG (goodN gs i) (W.getD i []) n := by
  unfold worthB worthG
  rw [wpB_succ, List.map_append, List.sum_append]
theorem wpG_len (g : Good) (w : List Int) (m : Nat) : (wpG g w m).length ≤ m := by
  have := flat_most (f := fun k => [((wantN g k, rowF w k) : Off)]) (fun k => Nat.le_refl 1) m
  rwa [Nat.mul_one] at this
theorem wpB_len (gs : List Good) (W : List (List Int)) (n i : Nat) : (wpB gs W n i).length ≤ i * n := flat_most (fun q => wpG_len _ _ _) i
theorem wp_in {b : Bak} (hb : bakB (bakD b) = true) {W : List (List Int)} {n i : Nat} : ∀ o ∈ wpB b.goods W n i, 0 ≤ o.1 ∧ o.1 ≤ 1000000000 := fun o ho => by
  obtain ⟨q, _, ho⟩ := List.mem_flatMap.mp ho
  obtain ⟨k, _, ho⟩ := List.mem_flatMap.mp ho
  rw [List.mem_singleton.mp ho]
  exact wantN_in (goodN_ok hb q) k
def spWorth (K : PySem.W.Frag) : Sp := fun vs H Q _ => ∃ x b y W, vs = [x, y] ∧ Th K H x (bakD b) ∧ bakB (bakD b) = true ∧ Th K H y (pricesD W) ∧ PrOk b W ∧ ∀ H', Same H H' → Q (.int (worthB b.goods W b.lights.length b.goods.length)) H'
theorem ok_worth_of_wants {f : Addr} {fd : FuncData} (F : Fun K "worth_of_wants" "worth_of_wants" s_worth_of_wants f fd) (B : Bi mg) (Bz : mg "zip" = none) : FnOk P w K mg base CX0 1 f fd ["bakery", "prices"] (spWorth K) := by
  refine F.ok sc_worth_of_wants (fun vs H Q E h => ?_) (fun cdv A outer s H vs Q E hr h => ?_)
  · obtain ⟨_, _, _, _, rfl, _⟩ := h
    rfl
  · obtain ⟨x, b, y, W, rfl, hx, hb, hy, ⟨hWl, hWe⟩, q⟩ := h
    refine ⟨_, (pss_cons (ps_asg (pv 0) (pg_tup rfl (pgs_cons (pg_name (i := 2) sc_worth_of_wants.nd rfl (Or.inl rfl)) (pgs_cons (pg_name (i := 3) sc_worth_of_wants.nd rfl (Or.inl rfl)) (pgs_cons (pg_name (i := 4) sc_worth_of_wants.nd rfl (Or.inl rfl)) pgs_nil)))))
 (pss_cons (ps_setLc2 (i := 5) (own := [("offered", 6), ("days", 7), ("life", 8), ("day", 9), ("price", 10)]) (vs1 := [9, 10]) (g := (gTup K 2 (gCons (gTup K 2 (gCons (gName 7) (gCons (gName 8) gNil))) (gCons (gName 6) gNil)))) (g1 := (gTup K 2 (gCons (gName 9) (gCons (gName 10) gNil)))) (wi1 := (iZip K (tCons (tVar 7) (tCons (tVar 6) tNil)))) rfl sc_worth_of_wants.nd rfl rfl rfl (pi_zip (by rfl) Bz (pa_cons (pv 4) (pa_cons (pv 1) pa_nil))) (blkOk_by (own := [("offered", 6), ("days", 7), ("life", 8), ("day", 9), ("price", 10)]) (N := ["bakery", "prices", "lights", "bound", "goods", "wants", "offered", "days", "life", "day", "price", "want"]) (sc := defScope s_worth_of_wants) (by decide +kernel)) (by decide) (fun _ _ _ _ _ => (pg_tup rfl (pgs_cons (pg_tup rfl (pgs_cons (pg_name (i := 7) sc_worth_of_wants.nd rfl (Or.inl rfl)) (pgs_cons (pg_name (i := 8) sc_worth_of_wants.nd rfl (Or.inl rfl)) pgs_nil))) (pgs_cons (pg_name (i := 6) sc_worth_of_wants.nd rfl (Or.inl rfl)) pgs_nil)))) (fun _ _ _ _ _ => pts_nil) (fun _ _ _ _ _ => (pi_zip (by rfl) Bz (pa_cons (pv 7) (pa_cons (pv 6) pa_nil)))) (fun _ _ _ _ _ => (pg_tup rfl (pgs_cons (pg_name (i := 9) sc_worth_of_wants.nd rfl (Or.inl rfl)) (pgs_cons (pg_name (i := 10) sc_worth_of_wants.nd rfl (Or.inl rfl)) pgs_nil)))) (fun _ _ _ _ _ => pts_nil) (fun _ _ _ _ _ => (pe_tup (pa_cons (pe_ix (ix_tupC (K := K) rfl) (pv 9) pe_int (fun _ _ => rfl)) (pa_cons (pv 10) pa_nil)))))
 (pss_one (ps_ret (pe_callB (cr_sum rfl) (by rfl) B.sum (by decide +kernel) (pa_cons (pe_lc (own := [("want", 11), ("price", 10)]) (g := (gTup K 2 (gCons (gName 11) (gCons (gName 10) gNil)))) rfl sc_worth_of_wants.nd (pi_list (pv 5)) (blkOk_by (own := [("want", 11), ("price", 10)]) (N := ["bakery", "prices", "lights", "bound", "goods", "wants", "offered", "days", "life", "day", "price", "want"]) (sc := defScope s_worth_of_wants) (by decide +kernel)) (fun _ _ _ _ _ => (pg_tup rfl (pgs_cons (pg_name (i := 11) sc_worth_of_wants.nd rfl (Or.inl rfl)) (pgs_cons (pg_name (i := 10) sc_worth_of_wants.nd rfl (Or.inl rfl)) pgs_nil)))) (fun _ _ _ _ _ => pts_nil) (fun _ _ _ _ _ => (pe_op op_mul (pv 11) (pv 10)))) pa_nil)))))), ?_⟩
    obtain ⟨⟨c1, c2⟩, c3, _, ⟨c5, c6⟩, c7⟩ := bak_parts hb
    obtain ⟨a, l, v2, ga, xl, xg, rfl, ht, hl, hla, h2, hgl, hga⟩ := Th.bak hx
    obtain ⟨pa, xp, rfl, hp, hpl, hpe⟩ := hy.prices
    have hxg : xg.length = b.goods.length := by rw [hga.length, List.length_map]
    walk_at "wp"
    refine ⟨_, ht, rfl, ?_⟩
    walk_at "wp"
    refine ⟨_, _, hgl, hp, fun D hD => ?_⟩
    refine Lc2R.by (walk_zip (n := b.goods.length) (xs := xg) (ys := xp) (by omega)) (fun i H' => Same H H' ∧ OffL H' D (wpB b.goods W b.lights.length i)) ⟨same_upd hD, ⟨⟨[], upd_same, rfl, fun z hz => nomatch hz⟩⟩⟩ (fun i H' _ hI => ⟨hI.1.seq hgl, hI.1.seq hp⟩) (fun i v H1 H2 hi hI yy => ?_) (fun H1 hI => ?_)
    · obtain ⟨S1, hO⟩ := hI
      have S2 := ypair_same yy
      obtain ⟨T, z1, z2, rfl, hT, rfl, e1, e2⟩ := yy
      have e1 : xg[i]? = some z1 := e1
      have e2 : xp[i]? = some z2 := e2
      have eT : upd H1 T (.tup [z1, z2]) T = some (.tup [z1, z2]) := upd_same
      generalize upd H1 T (.tup [z1, z2]) = H2 at S2 eT ⊢
      obtain ⟨gd0, hgd, hz⟩ := hga.get e1
      rw [List.getElem?_map] at hgd
      obtain ⟨g, hgg, rfl⟩ := Option.map_eq_some_iff.mp hgd
      obtain ⟨k1, k2, k3⟩ := c7 g (List.mem_of_getElem? hgg)
      obtain ⟨tg, ad, xs, rfl, htg, hsd, hda⟩ := hz.good
      have hxl : xs.length = g.days.length := by rw [hda.length, List.length_map]
      obtain ⟨aw, w, rfl, hw, hsw⟩ := hpe _ _ e2
      have hwl : w.length = b.lights.length := hWe w (List.mem_of_getElem? hw)
      have S12 := S1.trans S2
      have hO2 := hO.same S2
      have eg : goodN b.goods i = g := by unfold goodN; rw [List.getD_eq_getElem?_getD, hgg]; rfl
      have ew : W.getD i [] = w := by rw [List.getD_eq_getElem?_getD, hw]; rfl
      walk_at "wp"
      refine ⟨_, SqT.of eT, rfl, ?_⟩
      walk_at "wg"
      walk_at "wp"
      refine ⟨_, Same.tup S12 htg, rfl, ?_⟩
      walk_at "wg"
      walk_at "wp"
      refine ⟨_, _, S12.seq hsd, S12.seq hsw, ?_⟩
      refine Lc1R.by (walk_zip (n := b.lights.length) (xs := xs) (ys := w.map V.int) (by rw [List.length_map]; omega)) (fun m H' => Same H H' ∧ OffL H' D (wpB b.goods W b.lights.length i ++ wpG g w m)) ⟨S12, by rw [show wpG g w 0 = [] from rfl, List.append_nil]; exact hO2⟩ (fun i H' _ hI => ⟨hI.1.seq hsd, hI.1.seq hsw⟩) (fun m v H3 H4 hm hI yy => ?_) (fun H3 hI => ?_)
      · obtain ⟨S3, hO3⟩ := hI
        have S4 := ypair_same yy
        obtain ⟨T2, z1, z2, rfl, hT2, rfl, e1, e2⟩ := yy
        have e1 : xs[m]? = some z1 := e1
        have e2 : (w.map V.int)[m]? = some z2 := e2
        have eT2 : upd H3 T2 (.tup [z1, z2]) T2 = some (.tup [z1, z2]) := upd_same
        generalize upd H3 T2 (.tup [z1, z2]) = H4 at S4 eT2 ⊢
        have S34 := S3.trans S4
        have hO4 := hO3.same S4
        obtain ⟨dd0, hdd, hzd⟩ := hda.get e1
        rw [List.getElem?_map] at hdd
        obtain ⟨d, hd, rfl⟩ := Option.map_eq_some_iff.mp hdd
        obtain ⟨td, rfl, htd⟩ := hzd.day
        rw [List.getElem?_map] at e2
        obtain ⟨pr, hwm, rfl⟩ := Option.map_eq_some_iff.mp e2
        have ewn : wantN g m = d.want := by unfold wantN; rw [hd]
        have erw : rowF w m = pr := by unfold rowF; rw [List.getD_eq_getElem?_getD, hwm]; rfl
        walk_at "wp"
        refine ⟨_, SqT.of eT2, rfl, ?_⟩
        walk_at "wg"
        walk_at "wp"
        refine ⟨_, _, Same.tup S34 htd, atI_nat (j := 0) rfl, sz100 (by decide), fun p6 hp6 => ?_⟩
        obtain ⟨xs6, ex6, hx6, hO6⟩ := hO4.snoc hp6 (d.want, pr)
        have hl1 := wpB_len b.goods W b.lights.length i
        have hl2 := wpG_len g w m
        have hin : i * b.lights.length ≤ 2 * 40 := Nat.mul_le_mul (by omega) c2
        refine ⟨xs6, ex6, sz100l (by rw [hx6, List.length_append]; omega), same_mut (S34.trans (same_upd hp6)) hD, ?_⟩
        rw [wpG_succ, ewn, erw, ← List.append_assoc]
        exact hO6
      · obtain ⟨S3, hO3⟩ := hI
        refine ⟨S3, ?_⟩
        rw [wpB_succ, eg, ew]
        exact hO3
    · obtain ⟨S1, hO⟩ := hI
      obtain ⟨ps, eD, eps, hps⟩ := hO.ex
      have hpl2 : ps.length ≤ 80 := by
        have h1 := wpB_len b.goods W b.lights.length b.goods.length
        have h2 : b.goods.length * b.lights.length ≤ 2 * 40 := Nat.mul_le_mul c6 c2
        have h3 := congrArg List.length eps
        rw [List.length_map] at h3
        omega
      walk_at "wp"
      refine ⟨⟨_, SqL.of eD⟩, fun D2 hD2 => ?_⟩
      refine LcR.map (walk_list (xs := ps.map fun z => V.ref z.1)) (((wpB b.goods W b.lights.length b.goods.length).map fun o => o.1 * o.2).map V.int) hD2 (by rw [List.length_map, List.length_map, List.length_map, ← eps, List.length_map]) (by rw [List.length_map]; omega) (fun H s => SqL.of (s _ _ eD)) (fun _ _ _ _ y => yat_same y) (fun i x y H2 H3 hi s3 yy hy2 R0 hR0 => ?_) (fun H3 s3 hH3 => ?_)
      · obtain ⟨rfl, hxi⟩ := yy
        rw [List.length_map] at hi
        rw [List.getElem?_map, List.getElem?_eq_getElem hi] at hxi
        rw [← eps, List.getElem?_map, List.getElem?_map, List.getElem?_map, List.getElem?_eq_getElem hi] at hy2
        cases hxi
        cases hy2
        have hm := List.getElem_mem hi
        generalize ps[i] = z at hm hR0
        have e1 := s3 _ _ (hps z hm)
        have hin := wp_in hb (W := W) (n := b.lights.length) (i := b.goods.length) z.2 (by rw [← eps]; exact List.mem_map_of_mem hm)
        walk_at "wp"
        refine ⟨_, SqT.of e1, rfl, ?_⟩
        walk_at "wg"
        walk_at "wp"
        exact ⟨.inl ⟨by omega, by omega⟩, hR0 _ (Same.refl _)⟩
      · exact ⟨_, SqL.of hH3, q _ (S1.trans s3)⟩
abbrev s_bottom : Stmt := top 42
theorem sc_bottom : FnScope ["bakery", "prices", "lit", "dark", "lights", "bound", "goods", "total", "day", "light"] ["bakery", "prices", "lit", "dark"] (defScope s_bottom) := ⟨rfl, rfl, rfl, by decide +kernel, rfl, by decide +kernel, by decide +kernel⟩
def botT (b : Bak) (W : List (List Int)) (lit dark : List Int) (d : Nat) : Int := if (d : Int) ∈ lit then rowF b.lights d - gainV b W d else if (d : Int) ∈ dark then 0 else min 0 (rowF b.lights d - gainV b W d)
def botS (b : Bak) (W : List (List Int)) (lit dark : List Int) : Nat → Int
  | 0 => worthB b.goods W b.lights.length b.goods.length
  | d + 1 => botS b W lit dark d + botT b W lit dark d
def bottomV (b : Bak) (W : List (List Int)) (lit dark : List Int) : Int := botS b W lit dark b.lights.length
def BtI (v0 v1 v2 v3 v4 v5 v6 : V) (b : Bak) (W : List (List Int)) (lit dark : List Int) (H : Hp) (i : Nat) (σ : L2.St) (H' : Hp) : Prop := ∃ (y8 y9 : Option V), σ = [some v0, some v1, some v2, some v3, some v4, some v5, some v6, some (.int (botS b W lit dark i)), y8, y9] ∧ Same H H'
def spBottom (K : PySem.W.Frag) : Sp := fun vs H Q _ => ∃ x b y W p q lit dark, vs = [x, y, .ref p, .ref q] ∧ Th K H x (bakD b) ∧ bakB (bakD b) = true ∧ Th K H y (pricesD W) ∧ PrOk b W ∧ SqL K H p (lit.map V.int) ∧ SqL K H q (dark.map V.int) ∧ ∀ H', Same H H' → Q (.int (bottomV b W lit dark)) H'
theorem ok_bottom {f : Addr} {fd : FuncData} (F : Fun K "bottom" "bottom" s_bottom f fd) (B : Bi mg) (D_look_at_bakery : Def P w K mg base "look_at_bakery" 6 ["thing"] (spLook K)) (D_worth_of_wants : Def P w K mg base "worth_of_wants" 1 ["bakery", "prices"] (spWorth K)) (D_gain_on : Def P w K mg base "gain_on" 4 ["bakery", "prices", "day"] (spGainOn K)) : FnOk P w K mg base CX0 7 f fd ["bakery", "prices", "lit", "dark"] (spBottom K) := by
  refine F.ok sc_bottom (fun vs H Q E h => ?_) (fun cdv A outer s H vs Q E hr h => ?_)
  · obtain ⟨_, _, _, _, _, _, _, _, rfl, _⟩ := h
    rfl
  · obtain ⟨x, b, y, W, p, q, lit, dark, rfl, hx, hb, hy, hW, hp, hq, qq⟩ := h
    refine ⟨_, (pss_cons (ps_expr (pe_callD D_look_at_bakery hr (by rfl) (pa_cons (pv 0) pa_nil)))
 (pss_cons (ps_asg (pv 0) (pg_tup rfl (pgs_cons (pg_name (i := 4) sc_bottom.nd rfl (Or.inl rfl)) (pgs_cons (pg_name (i := 5) sc_bottom.nd rfl (Or.inl rfl)) (pgs_cons (pg_name (i := 6) sc_bottom.nd rfl (Or.inl rfl)) pgs_nil)))))
 (pss_cons (ps_set (i := 7) sc_bottom.nd rfl (Or.inl rfl) (pe_callD D_worth_of_wants hr (by rfl) (pa_cons (pv 0) (pa_cons (pv 1) pa_nil))))
 (pss_cons (ps_for PassesOwn.never rfl (pi_enum (by rfl) B.enumerate (pa_cons (pv 4) pa_nil)) (pg_tup rfl (pgs_cons (pg_name (i := 8) sc_bottom.nd rfl (Or.inl rfl)) (pgs_cons (pg_name (i := 9) sc_bottom.nd rfl (Or.inl rfl)) pgs_nil))) (pss_one (ps_if (pt_cmpR op_in_seq (pv 8) (pv 2) (by rfl)) (pss_one (ps_aug (i := 7) sc_bottom.nd rfl (Or.inl rfl) (pe_op op_sub (pv 9) (pe_callD D_gain_on hr (by rfl) (pa_cons (pv 0) (pa_cons (pv 1) (pa_cons (pv 8) pa_nil))))) ip_add)) (pss_one (ps_if (pt_cmpR op_notIn_seq (pv 8) (pv 3) (by rfl)) (pss_one (ps_aug (i := 7) sc_bottom.nd rfl (Or.inl rfl) (pe_callB (call_mn rfl) (by rfl) B.min (by decide +kernel) (pa_cons pe_int (pa_cons (pe_op op_sub (pv 9) (pe_callD D_gain_on hr (by rfl) (pa_cons (pv 0) (pa_cons (pv 1) (pa_cons (pv 8) pa_nil))))) pa_nil))) ip_add)) pss_nil)))))
 (pss_one (ps_ret (pv 7))))))), ?_⟩
    obtain ⟨⟨c1, c2⟩, c3, _, ⟨c5, c6⟩, c7⟩ := bak_parts hb
    obtain ⟨a, l, v2, ga, xl, xg, rfl, ht, hl, hla, h2, hgl, hga⟩ := Th.bak hx
    have e := hla.intsV
    subst e
    walk_at "wp"
    refine ⟨_, _, rfl, hx, hb, fun H1 S1 => ?_⟩
    walk_at "wp"
    refine ⟨_, Same.tup S1 ht, rfl, ?_⟩
    walk_at "wp"
    refine ⟨_, b, y, W, rfl, hx.same S1, hb, hy.same S1, hW, fun H2 S2 => ?_⟩
    have S2 := S1.trans S2
    walk_at "wp"
    refine ⟨_, S2.seq hl, LoopR.by walk_enum (BtI (.ref a) y (.ref p) (.ref q) (.ref l) v2 (.ref ga) b W lit dark H2) ⟨none, none, rfl, Same.refl _⟩ (fun i σ H' _ hI => by obtain ⟨_, _, _, S⟩ := hI; exact (S2.trans S).seq hl) (fun i v σ H3 H4 hi hI yy => ?_) (fun σ H3 hI => ?_)⟩
    · obtain ⟨y8, y9, rfl, S3⟩ := hI
      have S4 := ypair_same yy
      obtain ⟨T, z1, z2, rfl, hT, rfl, e1, e2⟩ := yy
      cases e1
      have e2 : (b.lights.map V.int)[i]? = some z2 := e2
      have eT : upd H3 T (.tup [V.int (i : Int), z2]) T = some (.tup [V.int (i : Int), z2]) := upd_same
      generalize upd H3 T (.tup [V.int (i : Int), z2]) = H4 at S4 eT ⊢
      rw [List.length_map] at hi
      rw [List.getElem?_map] at e2
      obtain ⟨light, hli, rfl⟩ := Option.map_eq_some_iff.mp e2
      have elr : rowF b.lights i = light := by unfold rowF; rw [List.getD_eq_getElem?_getD, hli]; rfl
      have S34 := S3.trans S4
      have SH := S2.trans S34
      walk_at "wp"
      refine ⟨_, SqT.of eT, rfl, ?_⟩
      walk_at "wg"
      walk_at "wp"
      have fl : ∀ ms : List Int, (ms.map V.int).all flatV = true := fun ms => by
        rw [List.all_eq_true]
        intro z hz
        obtain ⟨_, _, rfl⟩ := List.mem_map.mp hz
        rfl
      have estep : botS b W lit dark (i + 1) = botS b W lit dark i + botT b W lit dark i := rfl
      refine ⟨_, .inl (SH.seq hp), rfl, fl _, ?_⟩
      rw [inV_ints]
      by_cases hlit : (i : Int) ∈ lit
      · rw [if_pos (decide_eq_true hlit)]
        refine ⟨_, b, y, W, i, rfl, hx.same SH, hb, hy.same SH, hW, by omega, fun H5 S5 => ?_⟩
        walk_at "wp"
        refine ⟨some (.int (i : Int)), some (.int light), ?_, S34.trans S5⟩
        rw [estep, show botT b W lit dark i = light - gainV b W i from by unfold botT; rw [if_pos hlit, elr]]
      · rw [if_neg (by rw [decide_eq_true_eq]; exact hlit)]
        refine ⟨_, .inl (SH.seq hq), rfl, fl _, ?_⟩
        rw [inV_ints]
        by_cases hdk : (i : Int) ∈ dark
        · rw [if_neg (by rw [decide_eq_true hdk]; simp)]
          refine ⟨some (.int (i : Int)), some (.int light), ?_, S34⟩
          rw [estep, show botT b W lit dark i = 0 from by unfold botT; rw [if_neg hlit, if_pos hdk], Int.add_zero]
        · rw [if_pos (by rw [decide_eq_false hdk]; rfl)]
          refine ⟨_, b, y, W, i, rfl, hx.same SH, hb, hy.same SH, hW, by omega, fun H5 S5 => ?_⟩
          walk_at "wp"
          refine ⟨some (.int (i : Int)), some (.int light), ?_, S34.trans S5⟩
          rw [estep, show botT b W lit dark i = min 0 (light - gainV b W i) from by unfold botT; rw [if_neg hlit, if_neg hdk, elr]]
          have em : (if light - gainV b W i < 0 then light - gainV b W i else 0) = min 0 (light - gainV b W i) := by split <;> omega
          rw [em]
    · obtain ⟨y8, y9, rfl, S3⟩ := hI
      rw [List.length_map]
      walk_at "wp"
      exact qq _ (S2.trans S3)
end
end Bk

namespace Bk
open PySem PySem.Spec PyProof.Rows L2
local macro_rules | `(tactic| walk_at "wp") => `(tactic| try simp only [rGtT_r, tRaise1f, rSorTL_r, rSorTR_r, tCKw, tLc2_eq, rIntS_r, rLenS_r, rIxS_r, rInS_r, rSplit_r, iStr_eq, rNewStrs, iRng3_eq, rRng3_i, tM1, tFmt, iLT, tAugS, tScT2, rSetL_r, rSetOf2_r, rSorDT_r, rSetD, tDGet2, tDGet, tDNewT, rExtend_r, rSortU_r, rSetOf_r, rSortedSet_r, rNinr_r, rNeN_r, rCatL_r, rSlT_r, rListOf_r, rIsB_b, rNotB_b, tFmtO, tJs, tOst, tCallS, WE, tRaise2, rOne_i, rSorD_r, tDNewK, Int.zero_add, tNever, tFor_eq, tLc_eq, iList, iTup, iRng1_eq, rRng1_i, iRng2_eq, rRng2_i, iEnum_eq, rEnum_r, iZip_eq, rZip_r, tSl, tPart, tNoPart, rSlL_r, rCat_r, rIn_r, rNin_r, rRepr_r, iRevR, rMin_r, rShr_i, rOdd_i, rSetL_r, gSub, rRg1_i, rRg2_i, rInr_r, tAug, ipI_ii, tLstRg, tRg1, tRg2, gTup_r, gUnl_r, rInt1_b, rInt1_i, rRep_r, tStep_r, scal, tSeq, tNext, tAsg, tRet, tRetN, tIfS, tDrop, tCB, tCons, tNil, tVar, tOp, tUn, tC, rU_i, rI_ii, rI0_ii, rEq, rNe, tTest, tB, tAnd, tOr, tNot, tAndV, tOrV, tNotV, tIf, tChain, tLst, tTup, tBM, tBM0, rAppend_r, rIxL_r, rIxT_r, rMx_ii, rMn_ii, rLnL_r, rLnT_r, rIsD_int, rIsD_bool, rIsD_list, rIsD_tuple, tCall, gName, gNil_n, gCons_c, cxK, L2.start, List.map, List.replicate, List.length_cons, List.length_nil, List.cons_append, List.nil_append, List.append_nil, List.getElem?_cons_zero, List.getElem?_cons_succ, Option.some.injEq, exists_eq_left', exists_eq_left, V.int.injEq, V.bl.injEq, V.str.injEq, V.ref.injEq, List.cons.injEq, and_true, true_and, and_self, List.set, wipe, rAll_r, rSum_r, reduceCtorEq, decide_true, decide_false, reduceIte, ite_true, ite_false, if_true, if_false, Bool.false_eq_true, Bool.not_true, Bool.not_false])
local macro_rules | `(tactic| walk_at "shaped") => `(tactic| (simp only [rGtT_r, SeqAt.shaped, PyData.canLay0, PyData.canLayAll0, PyData.depth, PyData.depthAll]; rfl))
local macro_rules | `(tactic| walk_at "lay") => `(tactic| (simp only [rGtT_r, PyData.canLay0, PyData.canLayAll0]; rfl))
local macro_rules | `(tactic| walk_at "wg") => `(tactic| try simp only [gName, gTup_r, gCons_c, gNil_n, cxK, List.set, List.cons.injEq, and_true, true_and, exists_eq_left', exists_eq_left, List.length_cons, List.length_nil])
section
variable {P : Program} {w : World} {K : PySem.W.Frag} {mg : Str → Option Value} {base : Heap}
abbrev s_are_whole : Stmt := top 14
theorem sc_are_whole : FnScope ["thing", "many", "each"] ["thing", "many"] (defScope s_are_whole) := ⟨rfl, rfl, rfl, by decide +kernel, rfl, by decide +kernel, by decide +kernel⟩
def spAreW (K : PySem.W.Frag) : Sp := fun vs H Q _ => ∃ (y : V) (n : Nat) (d : PyData), vs = [y, .int (n : Int)] ∧ n ≤ 1000 ∧ Th K H y d ∧ ∀ (H' : Hp) (r : Bool), Same H H' → (r = true ↔ ∃ ns : List Int, d = .list (ns.map PyData.int) ∧ ns.length = n) → Q (.bl r) H'
theorem ok_are_whole {f : Addr} {fd : FuncData} (F : Fun K "are_whole" "are_whole" s_are_whole f fd) (B : Bi mg) (D_is_list_of : Def P w K mg base "is_list_of" 1 ["thing", "fewest", "most"] (spListOf K)) (D_is_whole : Def P w K mg base "is_whole" 1 ["thing"] (spWhole K)) : FnOk P w K mg base CX0 2 f fd ["thing", "many"] (spAreW K) := by
  refine F.ok sc_are_whole (fun vs H Q E h => ?_) (fun cdv A outer s H vs Q E hr h => ?_)
  · obtain ⟨_, _, _, rfl, _⟩ := h
    rfl
  · obtain ⟨y, n, d, rfl, hn, hy, q⟩ := h
    refine ⟨_, (pss_one (ps_ret (pe_and (pe_callD D_is_list_of hr (by rfl) (pa_cons (pv 0) (pa_cons (pv 1) (pa_cons (pv 1) pa_nil)))) (pe_one (pe_callB (cr_all rfl) (by rfl) B.all (by decide +kernel) (pa_cons (pe_lc (own := [("each", 2)]) (g := (gName 2)) rfl sc_are_whole.nd (pi_list (pv 0)) (blkOk_by (own := [("each", 2)]) (N := ["thing", "many", "each"]) (sc := defScope s_are_whole) (by decide +kernel)) (fun _ _ _ _ _ => (pg_name (i := 2) sc_are_whole.nd rfl (Or.inl rfl))) (fun _ _ _ _ _ => pts_nil) (fun _ _ _ _ _ => (pe_callD D_is_whole hr (by rfl) (pa_cons (pv 2) pa_nil)))) pa_nil)))))), ?_⟩
    have no : ∀ H1, Same H H1 → (∀ ns : List Int, d = .list (ns.map PyData.int) → ns.length = n → False) → Q (.bl false) H1 := fun H1 s h => q H1 false s ⟨fun z => (by cases z), fun ⟨ns, z1, z2⟩ => (h ns z1 z2).elim⟩
    walk_at "wp"
    refine ⟨y, d, n, n, rfl, hy, ?_⟩
    walk_at "wp"
    cases hl : listB n n d with
    | false =>
      walk_at "wp"
      refine no _ (Same.refl _) fun ns z1 z2 => ?_
      rw [z1] at hl
      simp only [listB, List.length_map, z2, Nat.le_refl, decide_true, Bool.and_self] at hl
      cases hl
    | true =>
      cases hy with
      | lst hp hpa =>
        rename_i p ys ds
        have hl2 := Bool.and_eq_true_iff.mp hl
        have hdl : ds.length = n := by
          have h1 := of_decide_eq_true hl2.1
          have h2 := of_decide_eq_true hl2.2
          omega
        have hyl := hpa.length
        walk_at "wp"
        refine ⟨⟨_, hp⟩, fun D hD => ?_⟩
        refine LcR.map (walk_list (xs := ys)) ((ds.map wholeD).map V.bl) hD (by rw [List.length_map, List.length_map, hyl]) (by omega) (fun H s => s.seq hp) (fun _ _ _ _ y => yat_same y) (fun i x y H0 H1 hi s1 yy hy R hR => ?_) (fun H1 s1 hH => ?_)
        · obtain ⟨rfl, hx⟩ := yy
          obtain ⟨d, hd, hxd⟩ := hpa.get hx
          walk_at "wp"
          refine ⟨x, d, rfl, hxd.same s1, ?_⟩
          rw [List.getElem?_map, List.getElem?_map, hd] at hy
          cases hy
          exact hR _ (Same.refl _)
        · refine ⟨ds.map wholeD, SqL.of hH, ?_⟩
          have e : (ds.map wholeD).all id = ds.all wholeD := by rw [List.all_map]; rfl
          rw [e]
          cases hw : ds.all wholeD with
          | false =>
            refine no H1 s1 fun ns z1 z2 => ?_
            injection z1 with z1
            rw [z1, wholeD_ints] at hw
            cases hw
          | true =>
            obtain ⟨ns, rfl⟩ := all_wholeD hw
            rw [List.length_map] at hdl
            exact q H1 true s1 ⟨fun _ => ⟨ns, rfl, hdl⟩, fun _ => rfl⟩
      | _ => cases hl
end
end Bk

namespace Bk
open PySem PySem.Spec PyProof.Rows L2
local macro_rules | `(tactic| walk_at "wp") => `(tactic| try simp only [rGtT_r, tRaise1f, rSorTL_r, rSorTR_r, tCKw, tLc2_eq, rIntS_r, rLenS_r, rIxS_r, rInS_r, rSplit_r, iStr_eq, rNewStrs, iRng3_eq, rRng3_i, tM1, tFmt, iLT, tAugS, tScT2, rSetL_r, rSetOf2_r, rSorDT_r, rSetD, tDGet2, tDGet, tDNewT, rExtend_r, rSortU_r, rSetOf_r, rSortedSet_r, rNinr_r, rNeN_r, rCatL_r, rSlT_r, rListOf_r, rIsB_b, rNotB_b, tFmtO, tJs, tOst, tCallS, WE, tRaise2, rOne_i, rSorD_r, tDNewK, Int.zero_add, tNever, tFor_eq, tLc_eq, iList, iTup, iRng1_eq, rRng1_i, iRng2_eq, rRng2_i, iEnum_eq, rEnum_r, iZip_eq, rZip_r, tSl, tPart, tNoPart, rSlL_r, rCat_r, rIn_r, rNin_r, rRepr_r, iRevR, rMin_r, rShr_i, rOdd_i, rSetL_r, gSub, rRg1_i, rRg2_i, rInr_r, tAug, ipI_ii, tLstRg, tRg1, tRg2, gTup_r, gUnl_r, rInt1_b, rInt1_i, rRep_r, tStep_r, scal, tSeq, tNext, tAsg, tRet, tRetN, tIfS, tDrop, tCB, tCons, tNil, tVar, tOp, tUn, tC, rU_i, rI_ii, rI0_ii, rEq, rNe, tTest, tB, tAnd, tOr, tNot, tAndV, tOrV, tNotV, tIf, tChain, tLst, tTup, tBM, tBM0, rAppend_r, rIxL_r, rIxT_r, rMx_ii, rMn_ii, rLnL_r, rLnT_r, rIsD_int, rIsD_bool, rIsD_list, rIsD_tuple, tCall, gName, gNil_n, gCons_c, cxK, L2.start, List.map, List.replicate, List.length_cons, List.length_nil, List.cons_append, List.nil_append, List.append_nil, List.getElem?_cons_zero, List.getElem?_cons_succ, Option.some.injEq, exists_eq_left', exists_eq_left, V.int.injEq, V.bl.injEq, V.str.injEq, V.ref.injEq, List.cons.injEq, and_true, true_and, and_self, List.set, wipe, rAll_r, rSum_r, reduceCtorEq, decide_true, decide_false, reduceIte, ite_true, ite_false, if_true, if_false, Bool.false_eq_true, Bool.not_true, Bool.not_false])
local macro_rules | `(tactic| walk_at "shaped") => `(tactic| (simp only [rGtT_r, SeqAt.shaped, PyData.canLay0, PyData.canLayAll0, PyData.depth, PyData.depthAll]; rfl))
local macro_rules | `(tactic| walk_at "lay") => `(tactic| (simp only [rGtT_r, PyData.canLay0, PyData.canLayAll0]; rfl))
local macro_rules | `(tactic| walk_at "wg") => `(tactic| try simp only [gName, gTup_r, gCons_c, gNil_n, cxK, List.set, List.cons.injEq, and_true, true_and, exists_eq_left', exists_eq_left, List.length_cons, List.length_nil])
section
variable {P : Program} {w : World} {K : PySem.W.Frag} {mg : Str → Option Value} {base : Heap}
def plB (n : Nat) : PyData → Bool
  | .int i => decide (0 ≤ i) && decide (i < (n : Int))
  | _ => false
theorem plB_int {n : Nat} {d : PyData} (h : plB n d = true) : ∃ i : Int, d = .int i ∧ 0 ≤ i ∧ i < (n : Int) := by
  cases d with
  | int i =>
    simp only [plB, Bool.and_eq_true, decide_eq_true_eq] at h
    exact ⟨i, rfl, h⟩
  | _ => cases h
def spPlaceA (K : PySem.W.Frag) : Sp := fun vs H Q _ => ∃ x d, ∃ n : Nat, vs = [x, .int (n : Int)] ∧ Th K H x d ∧ Q (.bl (plB n d)) H
theorem okA_is_place {f : Addr} {fd : FuncData} (F : Fun K "is_place" "is_place" s_is_place f fd) (D_is_whole : Def P w K mg base "is_whole" 1 ["thing"] (spWhole K)) : FnOk P w K mg base CX0 2 f fd ["thing", "many"] (spPlaceA K) := by
  refine F.ok sc_is_place (fun vs H Q E h => ?_) (fun cdv A outer s H vs Q E hr h => ?_)
  · obtain ⟨_, _, _, rfl, _⟩ := h
    rfl
  · obtain ⟨x, d, n, rfl, hx, q⟩ := h
    refine ⟨_, (pss_one (ps_ret (pe_and (pe_callD D_is_whole hr (by rfl) (pa_cons (pv 0) pa_nil)) (pe_one (pe_chain op_le op_lt pe_int (pv 0) (pv 1)))))), ?_⟩
    walk_at "wp"
    refine ⟨_, _, rfl, hx, ?_⟩
    cases hx with
    | int i =>
      simp only [wholeD]
      walk_at "wp"
      refine ite2 (fun h => qb ?_ q) (fun h => qb ?_ q)
      · simp only [plB, h, Bool.true_and]
      · simp only [plB, Bool.eq_false_iff.mpr h, Bool.false_and]
    | _ =>
      simp only [wholeD]
      walk_at "wp"
      exact q
def leD : PyData → PyData → Bool
  | .int x, .int y => decide (x ≤ y)
  | _, _ => false
/-- whether it is a stretch -/
def strB (n : Nat) : PyData → Bool
  | .tuple [d1, d2] => plB n d1 && (plB n d2 && leD d1 d2)
  | _ => false
def spIsStA (K : PySem.W.Frag) : Sp := fun vs H Q _ => ∃ x b t d, vs = [x, t] ∧ Th K H x (bakD b) ∧ Th K H t d ∧ Q (.bl (strB b.lights.length d)) H
theorem okA_is_stretch {f : Addr} {fd : FuncData} (F : Fun K "is_stretch" "is_stretch" s_is_stretch f fd) (B : Bi mg) (D_is_tuple_of : Def P w K mg base "is_tuple_of" 1 ["thing", "many"] (spTupleOf K)) (D_is_place : Def P w K mg base "is_place" 2 ["thing", "many"] (spPlaceA K)) : FnOk P w K mg base CX0 3 f fd ["bakery", "thing"] (spIsStA K) := by
  refine F.ok sc_is_stretch (fun vs H Q E h => ?_) (fun cdv A outer s H vs Q E hr h => ?_)
  · obtain ⟨_, _, _, _, rfl, _⟩ := h
    rfl
  · obtain ⟨x, b, t, d, rfl, hx, ht0, q⟩ := h
    refine ⟨_, (pss_cons (ps_asg (pv 0) (pg_tup rfl (pgs_cons (pg_name (i := 2) sc_is_stretch.nd rfl (Or.inl rfl)) (pgs_cons (pg_name (i := 3) sc_is_stretch.nd rfl (Or.inl rfl)) (pgs_cons (pg_name (i := 4) sc_is_stretch.nd rfl (Or.inl rfl)) pgs_nil)))))
 (pss_cons (ps_if (pt_not (pt_val (pe_callD D_is_tuple_of hr (by rfl) (pa_cons (pv 1) (pa_cons pe_int pa_nil))))) (pss_one (ps_ret pe_bl)) pss_nil)
 (pss_cons (ps_asg (pv 1) (pg_tup rfl (pgs_cons (pg_name (i := 5) sc_is_stretch.nd rfl (Or.inl rfl)) (pgs_cons (pg_name (i := 6) sc_is_stretch.nd rfl (Or.inl rfl)) pgs_nil))))
 (pss_one (ps_ret (pe_and (pe_callD D_is_place hr (by rfl) (pa_cons (pv 5) (pa_cons (pe_callB call_lnL (by rfl) B.len (by decide +kernel) (pa_cons (pv 2) pa_nil)) pa_nil))) (pe_and (pe_callD D_is_place hr (by rfl) (pa_cons (pv 6) (pa_cons (pe_callB call_lnL (by rfl) B.len (by decide +kernel) (pa_cons (pv 2) pa_nil)) pa_nil))) (pe_one (pe_cmpR op_le (pv 5) (pv 6) (nomark _)))))))))), ?_⟩
    obtain ⟨a, l, v2, ga, xl, xg, rfl, ht, hl, hla, h2, hgl, hga⟩ := Th.bak hx
    have lenL : xl.length = b.lights.length := by rw [hla.length, List.length_map]
    walk_at "wp"
    refine ⟨_, ht, rfl, ?_⟩
    walk_at "wp"
    refine ⟨_, d, 2, rfl, ht0, ?_⟩
    cases hT : tupB 2 d with
    | false =>
      walk_at "wp"
      refine qb ?_ q
      match d, hT with
      | .tuple [_, _], hT => cases hT
      | .tuple [], _ => rfl
      | .tuple [_], _ => rfl
      | .tuple (_ :: _ :: _ :: _), _ => rfl
      | .none, _ => rfl
      | .bool _, _ => rfl
      | .int _, _ => rfl
      | .str _, _ => rfl
      | .list _, _ => rfl
      | .dict _, _ => rfl
    | true =>
      obtain ⟨d1, d2, rfl⟩ : ∃ d1 d2, d = .tuple [d1, d2] := by
        match d, hT with
        | .tuple [d1, d2], _ => exact ⟨d1, d2, rfl⟩
        | .tuple [], hT => cases hT
        | .tuple [_], hT => cases hT
        | .tuple (_ :: _ :: _ :: _), hT => simp [tupB] at hT
        | .none, hT => cases hT
        | .bool _, hT => cases hT
        | .int _, hT => cases hT
        | .str _, hT => cases hT
        | .list _, hT => cases hT
        | .dict _, hT => cases hT
      cases ht0 with
      | tup hs ha =>
        cases ha with
        | cons t1 ha => cases ha with
        | cons t2 ha =>
        cases ha
        walk_at "wp"
        refine ⟨_, hs, rfl, ?_⟩
        walk_at "wp"
        refine ⟨_, hl, ?_⟩
        rw [lenL]
        refine ⟨_, _, _, rfl, t1, ?_⟩
        simp only [strB] at q
        cases h1 : plB b.lights.length d1 with
        | false =>
          rw [h1] at q
          walk_at "wp"
          exact q
        | true =>
          rw [h1, Bool.true_and] at q
          walk_at "wp"
          refine ⟨_, hl, ?_⟩
          rw [lenL]
          refine ⟨_, _, _, rfl, t2, ?_⟩
          cases h2 : plB b.lights.length d2 with
          | false =>
            rw [h2] at q
            walk_at "wp"
            exact q
          | true =>
            rw [h2, Bool.true_and] at q
            obtain ⟨i, rfl, _⟩ := plB_int h1
            obtain ⟨j, rfl, _⟩ := plB_int h2
            cases t1
            cases t2
            walk_at "wp"
            exact q
end
end Bk

namespace Bk
open PySem PySem.Spec PyProof.Rows L2
local macro_rules | `(tactic| walk_at "wp") => `(tactic| try simp only [rGtT_r, tRaise1f, rSorTL_r, rSorTR_r, tCKw, tLc2_eq, rIntS_r, rLenS_r, rIxS_r, rInS_r, rSplit_r, iStr_eq, rNewStrs, iRng3_eq, rRng3_i, tM1, tFmt, iLT, tAugS, tScT2, rSetL_r, rSetOf2_r, rSorDT_r, rSetD, tDGet2, tDGet, tDNewT, rExtend_r, rSortU_r, rSetOf_r, rSortedSet_r, rNinr_r, rNeN_r, rCatL_r, rSlT_r, rListOf_r, rIsB_b, rNotB_b, tFmtO, tJs, tOst, tCallS, WE, tRaise2, rOne_i, rSorD_r, tDNewK, Int.zero_add, tNever, tFor_eq, tLc_eq, iList, iTup, iRng1_eq, rRng1_i, iRng2_eq, rRng2_i, iEnum_eq, rEnum_r, iZip_eq, rZip_r, tSl, tPart, tNoPart, rSlL_r, rCat_r, rIn_r, rNin_r, rRepr_r, iRevR, rMin_r, rShr_i, rOdd_i, rSetL_r, gSub, rRg1_i, rRg2_i, rInr_r, tAug, ipI_ii, tLstRg, tRg1, tRg2, gTup_r, gUnl_r, rInt1_b, rInt1_i, rRep_r, tStep_r, scal, tSeq, tNext, tAsg, tRet, tRetN, tIfS, tDrop, tCB, tCons, tNil, tVar, tOp, tUn, tC, rU_i, rI_ii, rI0_ii, rEq, rNe, tTest, tB, tAnd, tOr, tNot, tAndV, tOrV, tNotV, tIf, tChain, tLst, tTup, tBM, tBM0, rAppend_r, rIxL_r, rIxT_r, rMx_ii, rMn_ii, rLnL_r, rLnT_r, rIsD_int, rIsD_bool, rIsD_list, rIsD_tuple, tCall, gName, gNil_n, gCons_c, cxK, L2.start, List.map, List.replicate, List.length_cons, List.length_nil, List.cons_append, List.nil_append, List.append_nil, List.getElem?_cons_zero, List.getElem?_cons_succ, Option.some.injEq, exists_eq_left', exists_eq_left, V.int.injEq, V.bl.injEq, V.str.injEq, V.ref.injEq, List.cons.injEq, and_true, true_and, and_self, List.set, wipe, rAll_r, rSum_r, reduceCtorEq, decide_true, decide_false, reduceIte, ite_true, ite_false, if_true, if_false, Bool.false_eq_true, Bool.not_true, Bool.not_false])
local macro_rules | `(tactic| walk_at "shaped") => `(tactic| (simp only [rGtT_r, SeqAt.shaped, PyData.canLay0, PyData.canLayAll0, PyData.depth, PyData.depthAll]; rfl))
local macro_rules | `(tactic| walk_at "lay") => `(tactic| (simp only [rGtT_r, PyData.canLay0, PyData.canLayAll0]; rfl))
local macro_rules | `(tactic| walk_at "wg") => `(tactic| try simp only [gName, gTup_r, gCons_c, gNil_n, cxK, List.set, List.cons.injEq, and_true, true_and, exists_eq_left', exists_eq_left, List.length_cons, List.length_nil])
section
variable {P : Program} {w : World} {K : PySem.W.Frag} {mg : Str → Option Value} {base : Heap}
theorem stretch_to {P : Program} {w : World} {K : PySem.W.Frag} {mg : Str → Option Value} {base : Heap} {ps : List Str} (D : Def P w K mg base "is_stretch" 3 ps (spIsStA K)) : Def P w K mg base "is_stretch" 3 ps (spIsSt K) :=
  let ⟨f, fd, h1, h2, h3, F⟩ := D.ex
  ⟨f, fd, h1, h2, h3, F.imp fun vs H Q E ⟨x, b, t, i, j, e, hx, ht, hij, hj, q⟩ => ⟨x, b, .ref t, .tuple [.int i, .int j], e, hx, .tup ht (.cons (.int _) (.cons (.int _) .nil)), by
    have : strB b.lights.length (.tuple [.int (i : Int), .int (j : Int)]) = true := by
      simp only [strB, plB, leD, Bool.and_eq_true, decide_eq_true_eq]
      omega
    rw [this]
    exact q H (Same.refl _)⟩⟩
/-- more is wanted within a stretch than can be baked -/
noncomputable def overD (b : Bak) (ds : List Int) (i j : Nat) : Bool := decide (roomS (roomsL b ds) i j < needW (wantsB b) i j)
theorem FnOk.or {P : Program} {w : World} {K : PySem.W.Frag} {mg : Str → Option Value} {base : Heap} {CX : CXT} {k : Nat} {f : Addr} {fd : FuncData} {ps : List Str} {s1 s2 : Sp} (F1 : FnOk P w K mg base CX k f fd ps s1) (F2 : FnOk P w K mg base CX k f fd ps s2) : FnOk P w K mg base CX k f fd ps (fun vs H Q E => s1 vs H Q E ∨ s2 vs H Q E) :=
  ⟨fun vs H Q E h => h.elim (F1.len vs H Q E) (F2.len vs H Q E), fun A outer s H args us vs Q E hr h0 hb hv h => h.elim (F1.run A outer s H args us vs Q E hr h0 hb hv) (F2.run A outer s H args us vs Q E hr h0 hb hv)⟩
def spWtmF (K : PySem.W.Frag) : Sp := fun vs H Q _ => ∃ x b a ds t d, vs = [x, .ref a, t] ∧ Th K H x (bakD b) ∧ bakB (bakD b) = true ∧ SqL K H a ((ds : List Int).map V.int) ∧ DarkOk ds b.lights.length ∧ Th K H t d ∧ strB b.lights.length d = false ∧ ∀ H', Same H H' → Q (.bl false) H'
theorem okF_wants_too_much {f : Addr} {fd : FuncData} (F : Fun K "wants_too_much" "wants_too_much" s_wants_too_much f fd) (B : Bi mg) (D_look_at_bakery : Def P w K mg base "look_at_bakery" 6 ["thing"] (spLook K)) (D_look_at_days : Def P w K mg base "look_at_days" 3 ["bakery", "thing"] (spLookD K)) (D_is_stretch : Def P w K mg base "is_stretch" 3 ["bakery", "thing"] (spIsStA K)) (D_all_wants : Def P w K mg base "all_wants" 3 ["bakery"] (spAWants K)) (D_rooms_beside : Def P w K mg base "rooms_beside" 2 ["bakery", "dark"] (spRooms K)) : FnOk P w K mg base CX0 7 f fd ["bakery", "dark", "thing"] (spWtmF K) := by
  refine F.ok sc_wants_too_much (fun vs H Q E h => ?_) (fun cdv A outer s H vs Q E hr h => ?_)
  · obtain ⟨_, _, _, _, _, _, rfl, _⟩ := h
    rfl
  · obtain ⟨x, b, a, ds, t, d, rfl, hx, hb, hds, hdk, ht, hf, q⟩ := h
    refine ⟨_, (pss_cons (ps_expr (pe_callD D_look_at_bakery hr (by rfl) (pa_cons (pv 0) pa_nil)))
 (pss_cons (ps_expr (pe_callD D_look_at_days hr (by rfl) (pa_cons (pv 0) (pa_cons (pv 1) pa_nil))))
 (pss_cons (ps_if (pt_not (pt_val (pe_callD D_is_stretch hr (by rfl) (pa_cons (pv 0) (pa_cons (pv 2) pa_nil))))) (pss_one (ps_ret pe_bl)) pss_nil)
 (pss_cons (ps_asg (pv 2) (pg_tup rfl (pgs_cons (pg_name (i := 3) sc_wants_too_much.nd rfl (Or.inr rfl)) (pgs_cons (pg_name (i := 4) sc_wants_too_much.nd rfl (Or.inr rfl)) pgs_nil))))
 (pss_cons (ps_set (i := 5) sc_wants_too_much.nd rfl (Or.inl rfl) (pe_callB (cr_sum rfl) (by rfl) B.sum (by decide +kernel) (pa_cons (pe_lc (own := [("start", 6), ("end", 7), ("many", 8)]) (g := (gTup K 3 (gCons (gName 6) (gCons (gName 7) (gCons (gName 8) gNil))))) rfl sc_wants_too_much.nd (pi_list (pe_callD D_all_wants hr (by rfl) (pa_cons (pv 0) pa_nil))) (blkOk_by (own := [("start", 6), ("end", 7), ("many", 8)]) (N := ["bakery", "dark", "thing", "first", "last", "wanted", "start", "end", "many"]) (sc := defScope s_wants_too_much) (by decide +kernel)) (fun _ _ _ _ _ => (pg_tup rfl (pgs_cons (pg_name (i := 6) sc_wants_too_much.nd rfl (Or.inl rfl)) (pgs_cons (pg_name (i := 7) sc_wants_too_much.nd rfl (Or.inl rfl)) (pgs_cons (pg_name (i := 8) sc_wants_too_much.nd rfl (Or.inl rfl)) pgs_nil))))) (fun _ _ _ _ _ => (pts_one (PW.pt (pw_and (pt_cmpR op_le (pv 3) (pv 6) (nomark _)) (pw_and1 (pt_cmpR op_le (pv 7) (pv 4) (nomark _))))))) (fun _ _ _ _ _ => (pv 8))) pa_nil)))
 (pss_one (ps_ret (pe_cmpR op_gt (pv 5) (pe_callB (cr_sum rfl) (by rfl) B.sum (by decide +kernel) (pa_cons (pe_slice sl_list (pe_callD D_rooms_beside hr (by rfl) (pa_cons (pv 0) (pa_cons (pv 1) pa_nil))) (po_some (pv 3)) (po_some (pe_op op_add (pv 4) pe_int))) pa_nil)) (nomark _))))))))), ?_⟩
    walk_at "wp"
    refine ⟨_, _, rfl, hx, hb, fun H1 S1 => ?_⟩
    walk_at "wp"
    refine ⟨_, b, _, ds, rfl, hx.same S1, hb, S1.seq hds, hdk, fun H2 S2 => ?_⟩
    walk_at "wp"
    refine ⟨_, b, t, d, rfl, hx.same (S1.trans S2), ht.same (S1.trans S2), false, by rw [hf], ?_⟩
    rw [if_pos (by decide)]
    exact q _ (S1.trans S2)
def spWtmA (K : PySem.W.Frag) : Sp := fun vs H Q E => spWtm K vs H Q E ∨ spWtmF K vs H Q E
theorem okA_wants_too_much {f : Addr} {fd : FuncData} (F : Fun K "wants_too_much" "wants_too_much" s_wants_too_much f fd) (B : Bi mg) (D_look_at_bakery : Def P w K mg base "look_at_bakery" 6 ["thing"] (spLook K)) (D_look_at_days : Def P w K mg base "look_at_days" 3 ["bakery", "thing"] (spLookD K)) (D_is_stretch : Def P w K mg base "is_stretch" 3 ["bakery", "thing"] (spIsStA K)) (D_all_wants : Def P w K mg base "all_wants" 3 ["bakery"] (spAWants K)) (D_rooms_beside : Def P w K mg base "rooms_beside" 2 ["bakery", "dark"] (spRooms K)) : FnOk P w K mg base CX0 7 f fd ["bakery", "dark", "thing"] (spWtmA K) :=
  FnOk.or (ok_wants_too_much F B D_look_at_bakery D_look_at_days (stretch_to D_is_stretch) D_all_wants D_rooms_beside) (okF_wants_too_much F B D_look_at_bakery D_look_at_days D_is_stretch D_all_wants D_rooms_beside)
abbrev s_are_loaf_prices : Stmt := top 38
theorem sc_are_loaf_prices : FnScope ["bakery", "thing", "lights", "bound", "goods", "prices"] ["bakery", "thing"] (defScope s_are_loaf_prices) := ⟨rfl, rfl, rfl, by decide +kernel, rfl, by decide +kernel, by decide +kernel⟩
def spALP (K : PySem.W.Frag) : Sp := fun vs H Q _ => ∃ x b y d, vs = [x, y] ∧ Th K H x (bakD b) ∧ bakB (bakD b) = true ∧ Th K H y d ∧ ∀ (H' : Hp) (r : Bool), Same H H' → (r = true ↔ ∃ W, d = pricesD W ∧ PrOk b W) → Q (.bl r) H'
theorem ok_are_loaf_prices {f : Addr} {fd : FuncData} (F : Fun K "are_loaf_prices" "are_loaf_prices" s_are_loaf_prices f fd) (B : Bi mg) (D_look_at_bakery : Def P w K mg base "look_at_bakery" 6 ["thing"] (spLook K)) (D_is_list_of : Def P w K mg base "is_list_of" 1 ["thing", "fewest", "most"] (spListOf K)) (D_are_whole : Def P w K mg base "are_whole" 2 ["thing", "many"] (spAreW K)) : FnOk P w K mg base CX0 7 f fd ["bakery", "thing"] (spALP K) := by
  refine F.ok sc_are_loaf_prices (fun vs H Q E h => ?_) (fun cdv A outer s H vs Q E hr h => ?_)
  · obtain ⟨_, _, _, _, rfl, _⟩ := h
    rfl
  · obtain ⟨x, b, y, d, rfl, hx, hb, hy, q⟩ := h
    refine ⟨_, (pss_cons (ps_expr (pe_callD D_look_at_bakery hr (by rfl) (pa_cons (pv 0) pa_nil)))
 (pss_cons (ps_asg (pv 0) (pg_tup rfl (pgs_cons (pg_name (i := 2) sc_are_loaf_prices.nd rfl (Or.inr rfl)) (pgs_cons (pg_name (i := 3) sc_are_loaf_prices.nd rfl (Or.inl rfl)) (pgs_cons (pg_name (i := 4) sc_are_loaf_prices.nd rfl (Or.inl rfl)) pgs_nil)))))
 (pss_cons (ps_if (pt_not (pt_val (pe_callD D_is_list_of hr (by rfl) (pa_cons (pv 1) (pa_cons (pe_callB call_lnL (by rfl) B.len (by decide +kernel) (pa_cons (pv 4) pa_nil)) (pa_cons (pe_callB call_lnL (by rfl) B.len (by decide +kernel) (pa_cons (pv 4) pa_nil)) pa_nil)))))) (pss_one (ps_ret pe_bl)) pss_nil)
 (pss_one (ps_ret (pe_callB (cr_all rfl) (by rfl) B.all (by decide +kernel) (pa_cons (pe_lc (own := [("prices", 5)]) (g := (gName 5)) (te := (tCall _ _ _ (tCons _ (tCons (tCB (rLnL K) _) tNil)))) rfl sc_are_loaf_prices.nd (pi_list (pv 1)) (blkOk_by (own := [("prices", 5)]) (N := ["bakery", "thing", "lights", "bound", "goods", "prices"]) (sc := defScope s_are_loaf_prices) (by decide +kernel)) (fun _ _ _ _ _ => (pg_name (i := 5) sc_are_loaf_prices.nd rfl (Or.inl rfl))) (fun _ _ _ _ _ => pts_nil) (fun _ _ _ _ _ => (pe_callD D_are_whole hr (by rfl) (pa_cons (pv 5) (pa_cons (pe_callB call_lnL (by rfl) B.len (by decide +kernel) (pa_cons (pv 2) pa_nil)) pa_nil))))) pa_nil))))))), ?_⟩
    obtain ⟨⟨c1, c2⟩, c3, _, ⟨c5, c6⟩, c7⟩ := bak_parts hb
    obtain ⟨a, l, v2, ga, xl, xg, rfl, ht, hl, hla, h2, hgl, hga⟩ := Th.bak hx
    have lenL : xl.length = b.lights.length := by rw [hla.length, List.length_map]
    have lenG : xg.length = b.goods.length := by rw [hga.length, List.length_map]
    walk_at "wp"
    refine ⟨_, _, rfl, hx, hb, fun H1 S1 => ?_⟩
    walk_at "wp"
    refine ⟨_, Same.tup S1 ht, rfl, ?_⟩
    walk_at "wp"
    refine ⟨_, S1.seq hgl, _, S1.seq hgl, _, d, b.goods.length, b.goods.length, by rw [lenG], hy.same S1, ?_⟩
    walk_at "wp"
    cases hL : listB b.goods.length b.goods.length d with
    | false =>
      rw [if_pos (by rfl)]
      refine q _ _ S1 ⟨fun e => (by cases e), fun ⟨W, e, hW⟩ => ?_⟩
      subst e
      simp only [pricesD, listB, List.length_map, hW.1, Bool.and_eq_false_iff, decide_eq_false_iff_not] at hL
      omega
    | true =>
      rw [if_neg (by decide)]
      obtain ⟨ds, rfl⟩ : ∃ ds, d = .list ds := by
        cases d with
        | list ds => exact ⟨ds, rfl⟩
        | _ => cases hL
      simp only [listB, Bool.and_eq_true, decide_eq_true_eq] at hL
      have hdl : ds.length = b.goods.length := by omega
      have hy1 := hy.same S1
      cases hy1 with
      | @lst py ys _ hs ha =>
      have hyl : ys.length = ds.length := ha.length
      refine ⟨py, rfl, ⟨_, hs⟩, fun D hD => ?_⟩
      refine LcR.by (walk_list (xs := ys)) (fun i H' => Same H1 H' ∧ ∃ bs : List Bool, H' D = some (.lst (bs.map V.bl)) ∧ bs.length = i ∧ ∀ (k : Nat) (r : Bool), bs[k]? = some r → (r = true ↔ ∃ ns : List Int, ds[k]? = some (PyData.list (ns.map PyData.int)) ∧ ns.length = b.lights.length)) ⟨same_upd hD, [], upd_same, rfl, ?_⟩ (fun i H' _ hI => hI.1.seq hs) (fun i v H0 H3 hi hI yy => ?_) (fun H3 hI => ?_)
      · intro k r h
        cases k <;> cases h
      · obtain ⟨rfl, hxi⟩ := yy
        obtain ⟨S3, bs, eb, hbl, hbs⟩ := hI
        obtain ⟨e, he, hv⟩ := ha.get hxi
        walk_at "wp"
        refine ⟨_, (S1.trans S3).seq hl, ?_⟩
        rw [lenL]
        refine ⟨v, b.lights.length, e, rfl, by omega, hv.same S3, fun H4 r S4 hr => ?_⟩
        refine ⟨_, S4 _ _ eb, sz100l (by rw [List.length_map]; omega), same_mut (S3.trans S4) hD, bs ++ [r], by rw [upd_same, List.map_append]; rfl, by rw [List.length_append, hbl]; rfl, fun k r' hk => ?_⟩
        by_cases hki : k < bs.length
        · rw [List.getElem?_append_left hki] at hk
          exact hbs k r' hk
        · have hke : k = bs.length := by
            have := (List.getElem?_eq_some_iff.mp hk).1
            rw [List.length_append, List.length_singleton] at this
            omega
          subst hke
          rw [List.getElem?_append_right (Nat.le_refl _), Nat.sub_self] at hk
          cases hk
          rw [hr, hbl, he]
          constructor
          · rintro ⟨ns, rfl, h⟩
            exact ⟨ns, rfl, h⟩
          · rintro ⟨ns, h1, h⟩
            cases h1
            exact ⟨ns, rfl, h⟩
      · obtain ⟨S3, bs, eb, hbl, hbs⟩ := hI
        refine ⟨bs, SqL.of eb, q _ _ (S1.trans S3) ?_⟩
        rw [List.all_eq_true]
        constructor
        · intro hall
          have each : ∀ k (hk : k < ds.length), ∃ ns : List Int, ds[k] = .list (ns.map PyData.int) ∧ ns.length = b.lights.length := fun k hk => by
            have hkb : k < bs.length := by omega
            have h1 := hall bs[k] (List.getElem_mem hkb)
            obtain ⟨ns, e, h⟩ := (hbs k _ (List.getElem?_eq_getElem hkb)).mp h1
            rw [List.getElem?_eq_getElem hk] at e
            exact ⟨ns, Option.some.inj e, h⟩
          have : ∀ l : List PyData, (∀ k (hk : k < l.length), ∃ ns : List Int, l[k] = .list (ns.map PyData.int) ∧ ns.length = b.lights.length) → ∃ W : List (List Int), l = W.map (fun w => .list (w.map PyData.int)) ∧ ∀ w ∈ W, w.length = b.lights.length := fun l => by
            induction l with
            | nil => exact fun _ => ⟨[], rfl, fun w hw => (by cases hw)⟩
            | cons z l ih =>
              intro h
              obtain ⟨ns, e, hn⟩ := h 0 (by simp)
              obtain ⟨W, eW, hW⟩ := ih fun k hk => h (k + 1) (by simp; omega)
              have e : z = .list (ns.map PyData.int) := e
              refine ⟨ns :: W, by rw [e, eW]; rfl, fun w hw => ?_⟩
              rcases List.mem_cons.mp hw with rfl | hw
              · exact hn
              · exact hW w hw
          obtain ⟨W, eW, hW⟩ := this ds each
          refine ⟨W, by rw [eW]; rfl, ?_, hW⟩
          rw [← hdl, eW, List.length_map]
        · rintro ⟨W, eW, hW⟩ r hr
          obtain ⟨k, hk, rfl⟩ := List.mem_iff_getElem.mp hr
          have eW : ds = W.map (fun w => PyData.list (w.map PyData.int)) := by
            unfold pricesD at eW
            injection eW
          have hkW : k < W.length := by
            have := hW.1
            omega
          have := (hbs k _ (List.getElem?_eq_getElem hk)).mpr ⟨W[k], by rw [eW, List.getElem?_map, List.getElem?_eq_getElem hkW]; rfl, hW.2 _ (List.getElem_mem hkW)⟩
          exact this
end
end Bk

namespace Bk
open PySem PySem.Spec PyProof.Rows L2
local macro_rules | `(tactic| walk_at "wp") => `(tactic| try simp only [rGtT_r, tRaise1f, rSorTL_r, rSorTR_r, tCKw, tLc2_eq, rIntS_r, rLenS_r, rIxS_r, rInS_r, rSplit_r, iStr_eq, rNewStrs, iRng3_eq, rRng3_i, tM1, tFmt, iLT, tAugS, tScT2, rSetL_r, rSetOf2_r, rSorDT_r, rSetD, tDGet2, tDGet, tDNewT, rExtend_r, rSortU_r, rSetOf_r, rSortedSet_r, rNinr_r, rNeN_r, rCatL_r, rSlT_r, rListOf_r, rIsB_b, rNotB_b, tFmtO, tJs, tOst, tCallS, WE, tRaise2, rOne_i, rSorD_r, tDNewK, Int.zero_add, tNever, tFor_eq, tLc_eq, iList, iTup, iRng1_eq, rRng1_i, iRng2_eq, rRng2_i, iEnum_eq, rEnum_r, iZip_eq, rZip_r, tSl, tPart, tNoPart, rSlL_r, rCat_r, rIn_r, rNin_r, rRepr_r, iRevR, rMin_r, rShr_i, rOdd_i, rSetL_r, gSub, rRg1_i, rRg2_i, rInr_r, tAug, ipI_ii, tLstRg, tRg1, tRg2, gTup_r, gUnl_r, rInt1_b, rInt1_i, rRep_r, tStep_r, scal, tSeq, tNext, tAsg, tRet, tRetN, tIfS, tDrop, tCB, tCons, tNil, tVar, tOp, tUn, tC, rU_i, rI_ii, rI0_ii, rEq, rNe, tTest, tB, tAnd, tOr, tNot, tAndV, tOrV, tNotV, tIf, tChain, tLst, tTup, tBM, tBM0, rAppend_r, rIxL_r, rIxT_r, rMx_ii, rMn_ii, rLnL_r, rLnT_r, rIsD_int, rIsD_bool, rIsD_list, rIsD_tuple, tCall, gName, gNil_n, gCons_c, cxK, L2.start, List.map, List.replicate, List.length_cons, List.length_nil, List.cons_append, List.nil_append, List.append_nil, List.getElem?_cons_zero, List.getElem?_cons_succ, Option.some.injEq, exists_eq_left', exists_eq_left, V.int.injEq, V.bl.injEq, V.str.injEq, V.ref.injEq, List.cons.injEq, and_true, true_and, and_self, List.set, wipe, rAll_r, rSum_r, reduceCtorEq, decide_true, decide_false, reduceIte, ite_true, ite_false, if_true, if_false, Bool.false_eq_true, Bool.not_true, Bool.not_false])
local macro_rules | `(tactic| walk_at "shaped") => `(tactic| (simp only [rGtT_r, SeqAt.shaped, PyData.canLay0, PyData.canLayAll0, PyData.depth, PyData.depthAll]; rfl))
local macro_rules | `(tactic| walk_at "lay") => `(tactic| (simp only [rGtT_r, PyData.canLay0, PyData.canLayAll0]; rfl))
local macro_rules | `(tactic| walk_at "wg") => `(tactic| try simp only [gName, gTup_r, gCons_c, gNil_n, cxK, List.set, List.cons.injEq, and_true, true_and, exists_eq_left', exists_eq_left, List.length_cons, List.length_nil])
section
variable {P : Program} {w : World} {K : PySem.W.Frag} {mg : Str → Option Value} {base : Heap}
abbrev s_is_node : Stmt := top 47
theorem sc_is_node : FnScope ["thing", "word", "many"] ["thing", "word", "many"] (defScope s_is_node) := ⟨rfl, rfl, rfl, by decide +kernel, rfl, by decide +kernel, by decide +kernel⟩
/-- a tuple of so many things that begins with a word -/
def headB (w : Str) (n : Nat) : PyData → Bool
  | .tuple (.str z :: r) => decide (r.length + 1 = n) && decide (z = w)
  | _ => false
def spNode (K : PySem.W.Frag) : Sp := fun vs H Q _ => ∃ x d w, ∃ n : Nat, vs = [x, .str w, .int (n : Int)] ∧ 1 ≤ n ∧ Th K H x d ∧ ∀ H', Same H H' → Q (.bl (headB w n d)) H'
theorem ok_is_node {f : Addr} {fd : FuncData} (F : Fun K "is_node" "is_node" s_is_node f fd) (B : Bi mg) (Bq : mg "str" = none) (D_is_tuple_of : Def P w K mg base "is_tuple_of" 1 ["thing", "many"] (spTupleOf K)) : FnOk P w K mg base CX0 2 f fd ["thing", "word", "many"] (spNode K) := by
  refine F.ok sc_is_node (fun vs H Q E h => ?_) (fun cdv A outer s H vs Q E hr h => ?_)
  · obtain ⟨_, _, _, _, rfl, _⟩ := h
    rfl
  · obtain ⟨x, d, wd, n, rfl, hn, hx, q⟩ := h
    refine ⟨_, (pss_one (ps_ret (pe_and (pe_callD D_is_tuple_of hr (by rfl) (pa_cons (pv 0) (pa_cons (pv 2) pa_nil))) (pe_and (pe_callB (call_isD .str) (by rfl) B.isinstance (by decide +kernel) (pa_cons (pe_ix ix_tup (pv 0) pe_int (fun _ _ => rfl)) (pa_cons (pe_bltn (v := .ty "str") (by rfl) Bq (by decide +kernel) rfl) pa_nil))) (pe_one (pe_cmpR op_eq (pe_ix ix_tup (pv 0) pe_int (fun _ _ => rfl)) (pv 1) (nomark _))))))), ?_⟩
    walk_at "wp"
    refine ⟨_, d, n, rfl, hx, ?_⟩
    dsimp only
    cases hT : tupB n d with
    | false =>
      refine ⟨_, rfl, ?_⟩
      rw [if_neg (by decide)]
      have : headB wd n d = false := by
        match d, hT with
        | .tuple (.str z :: r), hT =>
          simp only [tupB, List.length_cons, decide_eq_false_iff_not] at hT
          simp only [headB, Bool.and_eq_false_iff, decide_eq_false_iff_not]
          exact .inl hT
        | .tuple [], _ => rfl
        | .tuple (.none :: _), _ => rfl
        | .tuple (.bool _ :: _), _ => rfl
        | .tuple (.int _ :: _), _ => rfl
        | .tuple (.list _ :: _), _ => rfl
        | .tuple (.tuple _ :: _), _ => rfl
        | .tuple (.dict _ :: _), _ => rfl
        | .none, _ => rfl
        | .bool _, _ => rfl
        | .int _, _ => rfl
        | .str _, _ => rfl
        | .list _, _ => rfl
        | .dict _, _ => rfl
      rw [← this]
      exact q _ (Same.refl _)
    | true =>
      obtain ⟨ds, rfl⟩ : ∃ ds, d = .tuple ds := by
        cases d with
        | tuple ds => exact ⟨ds, rfl⟩
        | _ => cases hT
      simp only [tupB, decide_eq_true_eq] at hT
      obtain ⟨z, r, rfl⟩ : ∃ z r, ds = z :: r := by
        cases ds with
        | nil => rw [List.length_nil] at hT; omega
        | cons z r => exact ⟨z, r, rfl⟩
      cases hx with
      | @tup a xs _ hs ha =>
      cases ha with
      | @cons v _ vs _ hv hrest =>
      refine ⟨_, rfl, ?_⟩
      rw [if_pos rfl]
      walk_at "wp"
      refine ⟨_, _, hs, atI_nat (j := 0) rfl, v, z, rfl, hv, _, rfl, ?_⟩
      by_cases hz : isD Cl.str z = true
      · rw [if_pos hz]
        obtain ⟨u, rfl⟩ : ∃ u, z = .str u := by
          cases z with
          | str u => exact ⟨u, rfl⟩
          | _ => cases hz
        cases hv
        refine ⟨_, _, hs, atI_nat (j := 0) rfl, rfl, ?_⟩
        have e : headB wd n (.tuple (.str u :: r)) = decide (V.str u = V.str wd) := by
          rw [List.length_cons] at hT
          simp only [headB, decide_eq_true hT, Bool.true_and, V.str.injEq]
        rw [← e]
        exact q _ (Same.refl _)
      · rw [if_neg hz]
        have e : headB wd n (.tuple (z :: r)) = false := by
          cases z with
          | str u => exact absurd rfl hz
          | _ => rfl
        rw [← e]
        exact q _ (Same.refl _)
abbrev s_is_free_day : Stmt := top 48
theorem sc_is_free_day : FnScope ["bakery", "lit", "dark", "thing", "lights", "bound", "goods"] ["bakery", "lit", "dark", "thing"] (defScope s_is_free_day) := ⟨rfl, rfl, rfl, by decide +kernel, rfl, by decide +kernel, by decide +kernel⟩
def freeB (n : Nat) (lit dark : List Int) : PyData → Bool
  | .int i => (decide (0 ≤ i) && decide (i < (n : Int))) && (!decide (i ∈ lit) && !decide (i ∈ dark))
  | _ => false
def spFree (K : PySem.W.Frag) : Sp := fun vs H Q _ => ∃ x b p q t d lit dark, vs = [x, .ref p, .ref q, t] ∧ Th K H x (bakD b) ∧ SqL K H p ((lit : List Int).map V.int) ∧ SqL K H q ((dark : List Int).map V.int) ∧ Th K H t d ∧ ∀ H', Same H H' → Q (.bl (freeB b.lights.length lit dark d)) H'
theorem ok_is_free_day {f : Addr} {fd : FuncData} (F : Fun K "is_free_day" "is_free_day" s_is_free_day f fd) (B : Bi mg) (D_is_place : Def P w K mg base "is_place" 2 ["thing", "many"] (spPlaceA K)) : FnOk P w K mg base CX0 3 f fd ["bakery", "lit", "dark", "thing"] (spFree K) := by
  refine F.ok sc_is_free_day (fun vs H Q E h => ?_) (fun cdv A outer s H vs Q E hr h => ?_)
  · obtain ⟨_, _, _, _, _, _, _, _, rfl, _⟩ := h
    rfl
  · obtain ⟨x, b, p, q', t, d, lit, dark, rfl, hx, hp, hq, ht', q⟩ := h
    refine ⟨_, (pss_cons (ps_asg (pv 0) (pg_tup rfl (pgs_cons (pg_name (i := 4) sc_is_free_day.nd rfl (Or.inl rfl)) (pgs_cons (pg_name (i := 5) sc_is_free_day.nd rfl (Or.inl rfl)) (pgs_cons (pg_name (i := 6) sc_is_free_day.nd rfl (Or.inl rfl)) pgs_nil)))))
 (pss_one (ps_ret (pe_and (pe_callD D_is_place hr (by rfl) (pa_cons (pv 3) (pa_cons (pe_callB call_lnL (by rfl) B.len (by decide +kernel) (pa_cons (pv 4) pa_nil)) pa_nil))) (pe_and (pe_cmpR op_notIn_seq (pv 3) (pv 1) (by rfl)) (pe_one (pe_cmpR op_notIn_seq (pv 3) (pv 2) (by rfl)))))))), ?_⟩
    obtain ⟨a, l, v2, ga, xl, xg, rfl, ht, hl, hla, h2, hgl, hga⟩ := Th.bak hx
    have lenL : xl.length = b.lights.length := by rw [hla.length, List.length_map]
    walk_at "wp"
    refine ⟨_, ht, rfl, ?_⟩
    walk_at "wp"
    refine ⟨_, hl, ?_⟩
    rw [lenL]
    refine ⟨_, d, b.lights.length, rfl, ht', ?_⟩
    dsimp only
    refine ⟨_, rfl, ?_⟩
    cases hP : plB b.lights.length d with
    | false =>
      rw [if_neg (by decide)]
      have e : freeB b.lights.length lit dark d = false := by
        cases d with
        | int i =>
          have hP : (decide (0 ≤ i) && decide (i < (b.lights.length : Int))) = false := hP
          simp only [freeB, hP, Bool.false_and]
        | _ => rfl
      rw [← e]
      exact q _ (Same.refl _)
    | true =>
      rw [if_pos rfl]
      obtain ⟨i, rfl, i0, i1⟩ := plB_int hP
      cases ht'
      have fl : ∀ ms : List Int, (ms.map V.int).all flatV = true := fun ms => by
        rw [List.all_eq_true]
        intro z hz
        obtain ⟨_, _, rfl⟩ := List.mem_map.mp hz
        rfl
      refine ⟨_, .inl hp, rfl, fl _, ?_⟩
      rw [inV_ints]
      have e : freeB b.lights.length lit dark (.int i) = (!decide (i ∈ lit) && !decide (i ∈ dark)) := by
        simp only [freeB, decide_eq_true i0, decide_eq_true i1, Bool.true_and]
      rw [e] at q
      by_cases hl : i ∈ lit
      · rw [if_neg (by rw [decide_eq_true hl]; decide)]
        rw [decide_eq_true hl] at q
        exact q _ (Same.refl _)
      · rw [if_pos (by rw [decide_eq_false hl]; rfl)]
        refine ⟨_, .inl hq, rfl, fl _, ?_⟩
        rw [inV_ints]
        rw [decide_eq_false hl] at q
        exact q _ (Same.refl _)
end
end Bk

namespace Bk
open PySem PySem.Spec PyProof.Rows L2
local macro_rules | `(tactic| walk_at "wp") => `(tactic| try simp only [rGtT_r, tRaise1f, rSorTL_r, rSorTR_r, tCKw, tLc2_eq, rIntS_r, rLenS_r, rIxS_r, rInS_r, rSplit_r, iStr_eq, rNewStrs, iRng3_eq, rRng3_i, tM1, tFmt, iLT, tAugS, tScT2, rSetL_r, rSetOf2_r, rSorDT_r, rSetD, tDGet2, tDGet, tDNewT, rExtend_r, rSortU_r, rSetOf_r, rSortedSet_r, rNinr_r, rNeN_r, rCatL_r, rSlT_r, rListOf_r, rIsB_b, rNotB_b, tFmtO, tJs, tOst, tCallS, WE, tRaise2, rOne_i, rSorD_r, tDNewK, Int.zero_add, tNever, tFor_eq, tLc_eq, iList, iTup, iRng1_eq, rRng1_i, iRng2_eq, rRng2_i, iEnum_eq, rEnum_r, iZip_eq, rZip_r, tSl, tPart, tNoPart, rSlL_r, rCat_r, rIn_r, rNin_r, rRepr_r, iRevR, rMin_r, rShr_i, rOdd_i, rSetL_r, gSub, rRg1_i, rRg2_i, rInr_r, tAug, ipI_ii, tLstRg, tRg1, tRg2, gTup_r, gUnl_r, rInt1_b, rInt1_i, rRep_r, tStep_r, scal, tSeq, tNext, tAsg, tRet, tRetN, tIfS, tDrop, tCB, tCons, tNil, tVar, tOp, tUn, tC, rU_i, rI_ii, rI0_ii, rEq, rNe, tTest, tB, tAnd, tOr, tNot, tAndV, tOrV, tNotV, tIf, tChain, tLst, tTup, tBM, tBM0, rAppend_r, rIxL_r, rIxT_r, rMx_ii, rMn_ii, rLnL_r, rLnT_r, rIsD_int, rIsD_bool, rIsD_list, rIsD_tuple, tCall, gName, gNil_n, gCons_c, cxK, L2.start, List.map, List.replicate, List.length_cons, List.length_nil, List.cons_append, List.nil_append, List.append_nil, List.getElem?_cons_zero, List.getElem?_cons_succ, Option.some.injEq, exists_eq_left', exists_eq_left, V.int.injEq, V.bl.injEq, V.str.injEq, V.ref.injEq, List.cons.injEq, and_true, true_and, and_self, List.set, wipe, rAll_r, rSum_r, reduceCtorEq, decide_true, decide_false, reduceIte, ite_true, ite_false, if_true, if_false, Bool.false_eq_true, Bool.not_true, Bool.not_false])
local macro_rules | `(tactic| walk_at "shaped") => `(tactic| (simp only [rGtT_r, SeqAt.shaped, PyData.canLay0, PyData.canLayAll0, PyData.depth, PyData.depthAll]; rfl))
local macro_rules | `(tactic| walk_at "lay") => `(tactic| (simp only [rGtT_r, PyData.canLay0, PyData.canLayAll0]; rfl))
local macro_rules | `(tactic| walk_at "wg") => `(tactic| try simp only [gName, gTup_r, gCons_c, gNil_n, cxK, List.set, List.cons.injEq, and_true, true_and, exists_eq_left', exists_eq_left, List.length_cons, List.length_nil])
section
variable {P : Program} {w : World} {K : PySem.W.Frag} {mg : Str → Option Value} {base : Heap}
abbrev s_lets_split : Stmt := top 49
theorem sc_lets_split : FnScope ["bakery", "cost", "thing", "lit", "dark", "word", "day", "darker", "lighter"] ["bakery", "cost", "thing", "lit", "dark"] (defScope s_lets_split) := ⟨rfl, rfl, rfl, by decide +kernel, rfl, by decide +kernel, by decide +kernel⟩
def intOf : PyData → Int
  | .int i => i
  | _ => 0
noncomputable def prB (b : Bak) (cost : Int) (p : PyData) (lit dark : List Int) : Bool := @decide (∃ W, p = pricesD W ∧ PrOk b W ∧ cost ≤ bottomV b W lit dark) (Classical.propDecidable _)
theorem prB_iff {b : Bak} {cost : Int} {p : PyData} {lit dark : List Int} : prB b cost p lit dark = true ↔ ∃ W, p = pricesD W ∧ PrOk b W ∧ cost ≤ bottomV b W lit dark := @decide_eq_true_iff _ (Classical.propDecidable _)
noncomputable def stB (b : Bak) (dark : List Int) (x y : PyData) : Bool := strB b.lights.length (.tuple [x, y]) && overD b dark (intOf x).toNat (intOf y).toNat
noncomputable def leafB (b : Bak) (cost : Int) (d : PyData) (lit dark : List Int) : Bool :=
  if headB "stretch" 3 d = true then (match d with | .tuple [_, x, y] => stB b dark x y | _ => false)
  else if headB "prices" 2 d = true then (match d with | .tuple [_, p] => prB b cost p lit dark | _ => false) else false
/-- whether a tree shows it, so many splits deep at most -/
noncomputable def treeB (b : Bak) (cost : Int) : Nat → PyData → List Int → List Int → Bool
  | 0, d, lit, dark => leafB b cost d lit dark
  | n + 1, d, lit, dark => if headB "split" 4 d = true then (match d with | .tuple [_, x, c, e] => freeB b.lights.length lit dark x && (treeB b cost n c lit (dark ++ [intOf x]) && treeB b cost n e (lit ++ [intOf x]) dark) | _ => false) else leafB b cost d lit dark
/-- no more than so many splits deep -/
def Deep : Nat → PyData → Prop
  | 0, d => headB "split" 4 d = false
  | n + 1, d => ∀ z x c e, d = .tuple [z, x, c, e] → headB "split" 4 d = true → Deep n c ∧ Deep n e
def Alike (l l' : List Int) : Prop := ∀ i, i ∈ l ↔ i ∈ l'
theorem Alike.add {l l' : List Int} (h : Alike l l') (i : Int) : Alike (l ++ [i]) (l' ++ [i]) := fun j => by
  rw [List.mem_append, List.mem_append, h j]
theorem roomsL_alike {b : Bak} {l l' : List Int} (h : Alike l l') : roomsL b l = roomsL b l' := by
  unfold roomsL
  refine List.map_congr_left fun i _ => ?_
  unfold roomD
  simp only [h (i : Int)]
theorem overD_alike {b : Bak} {l l' : List Int} (h : Alike l l') (i j : Nat) : overD b l i j = overD b l' i j := by
  unfold overD
  rw [roomsL_alike h]
theorem bottomV_alike {b : Bak} {W : List (List Int)} {l l' m m' : List Int} (h : Alike l l') (h2 : Alike m m') : bottomV b W l m = bottomV b W l' m' := by
  have : ∀ n, botS b W l m n = botS b W l' m' n := fun n => by
    induction n with
    | zero => rfl
    | succ n ih =>
      show botS b W l m n + botT b W l m n = botS b W l' m' n + botT b W l' m' n
      rw [ih]
      unfold botT
      simp only [h (n : Int), h2 (n : Int)]
  exact this _
theorem freeB_alike {n : Nat} {l l' m m' : List Int} (h : Alike l l') (h2 : Alike m m') (d : PyData) : freeB n l m d = freeB n l' m' d := by
  cases d with
  | int i => simp only [freeB, h i, h2 i]
  | _ => rfl
theorem leafB_alike {b : Bak} {cost : Int} {d : PyData} {l l' m m' : List Int} (h : Alike l l') (h2 : Alike m m') : leafB b cost d l m = leafB b cost d l' m' := by
  have e1 : ∀ x y, stB b m x y = stB b m' x y := fun x y => by
    unfold stB
    rw [overD_alike h2]
  have e2 : ∀ p, prB b cost p l m = prB b cost p l' m' := fun p => by
    rw [Bool.eq_iff_iff, prB_iff, prB_iff]
    exact ⟨fun ⟨W, h3, h4, h5⟩ => ⟨W, h3, h4, by rw [← bottomV_alike h h2]; exact h5⟩, fun ⟨W, h3, h4, h5⟩ => ⟨W, h3, h4, by rw [bottomV_alike h h2]; exact h5⟩⟩
  unfold leafB
  simp only [e1, e2]
theorem head_split {d : PyData} (h : headB "split" 4 d = true) : ∃ x c e, d = .tuple [.str "split", x, c, e] := by
  match d, h with
  | .tuple (.str z :: r), h =>
    simp only [headB, Bool.and_eq_true, decide_eq_true_eq] at h
    obtain ⟨h1, rfl⟩ := h
    match r, h1 with
    | [x, c, e], _ => exact ⟨x, c, e, rfl⟩
theorem treeB_split {b : Bak} {cost : Int} {n : Nat} {x c e : PyData} {lit dark : List Int} : treeB b cost (n + 1) (.tuple [.str "split", x, c, e]) lit dark = (freeB b.lights.length lit dark x && (treeB b cost n c lit (dark ++ [intOf x]) && treeB b cost n e (lit ++ [intOf x]) dark)) := by
  show (if headB "split" 4 (.tuple [.str "split", x, c, e]) = true then _ else _) = _
  rw [if_pos (by rfl)]
theorem treeB_leaf {b : Bak} {cost : Int} {n : Nat} {d : PyData} {lit dark : List Int} (h : headB "split" 4 d = false) : treeB b cost n d lit dark = leafB b cost d lit dark := by
  cases n with
  | zero => rfl
  | succ n =>
    show (if headB "split" 4 d = true then _ else _) = _
    rw [h, if_neg (by decide)]
theorem treeB_alike {b : Bak} {cost : Int} : ∀ (n : Nat) (d : PyData) {l l' m m' : List Int}, Alike l l' → Alike m m' → treeB b cost n d l m = treeB b cost n d l' m'
  | 0, d, l, l', m, m', h, h2 => leafB_alike h h2
  | n + 1, d, l, l', m, m', h, h2 => by
    cases hh : headB "split" 4 d with
    | true =>
      obtain ⟨x, c, e, rfl⟩ := head_split hh
      rw [treeB_split, treeB_split, freeB_alike h h2, treeB_alike n c h (h2.add _), treeB_alike n e (h.add _) h2]
    | false =>
      rw [treeB_leaf hh, treeB_leaf hh]
      exact leafB_alike h h2
def spNodeL (K : PySem.W.Frag) (n : Nat) : Sp := fun vs H Q _ => ∃ x b cost t d p q lit dark, vs = [x, .int cost, t, .ref p, .ref q] ∧ Th K H x (bakD b) ∧ bakB (bakD b) = true ∧ Th K H t d ∧ SqL K H p ((lit : List Int).map V.int) ∧ SqL K H q ((dark : List Int).map V.int) ∧ DarkOk lit b.lights.length ∧ DarkOk dark b.lights.length ∧ lit.length ≤ 50 - n ∧ dark.length ≤ 50 - n ∧ n ≤ 40 ∧ Deep n d ∧ ∀ H', Same H H' → Q (.bl (treeB b cost n d lit dark)) H'
def spSplitL (K : PySem.W.Frag) (n : Nat) : Sp := fun vs H Q _ => ∃ x b cost t d p q lit dark, vs = [x, .int cost, t, .ref p, .ref q] ∧ Th K H x (bakD b) ∧ bakB (bakD b) = true ∧ Th K H t d ∧ SqL K H p ((lit : List Int).map V.int) ∧ SqL K H q ((dark : List Int).map V.int) ∧ DarkOk lit b.lights.length ∧ DarkOk dark b.lights.length ∧ lit.length ≤ 50 - (n + 1) ∧ dark.length ≤ 50 - (n + 1) ∧ n + 1 ≤ 40 ∧ Deep (n + 1) d ∧ headB "split" 4 d = true ∧ ∀ H', Same H H' → Q (.bl (treeB b cost (n + 1) d lit dark)) H'
theorem rising_pw : ∀ {ds : List Int}, Rising ds → ds.Pairwise (· < ·)
  | [], _ => .nil
  | [_], _ => by simp
  | x :: y :: r, h => by
    have ih := rising_pw (ds := y :: r) h.2
    refine List.pairwise_cons.mpr ⟨fun z hz => ?_, ih⟩
    rcases List.mem_cons.mp hz with rfl | hz
    · exact h.1
    · have := (List.pairwise_cons.mp ih).1 z hz
      have := h.1
      omega
theorem pw_rising : ∀ {ds : List Int}, ds.Pairwise (· < ·) → Rising ds
  | [], _ => trivial
  | [_], _ => trivial
  | x :: y :: r, h => ⟨(List.pairwise_cons.mp h).1 y List.mem_cons_self, pw_rising (List.pairwise_cons.mp h).2⟩
theorem pw_lt : ∀ {ds : List Int}, ds.Pairwise (· ≤ ·) → ds.Nodup → ds.Pairwise (· < ·)
  | [], _, _ => .nil
  | x :: r, h, hn => by
    obtain ⟨h1, h2⟩ := List.pairwise_cons.mp h
    obtain ⟨n1, n2⟩ := List.nodup_cons.mp hn
    refine List.pairwise_cons.mpr ⟨fun z hz => ?_, pw_lt h2 n2⟩
    have := h1 z hz
    have : x ≠ z := fun e => n1 (by rw [e]; exact hz)
    omega
theorem darkOk_add {n : Nat} {dark ns : List Int} {i : Int} (h : DarkOk dark n) (hp : ns.Perm (dark ++ [i])) (hs : ns.Pairwise (· ≤ ·)) (i0 : 0 ≤ i) (i1 : i < (n : Int)) (hi : i ∉ dark) (hl : dark.length ≤ 900) : DarkOk ns n ∧ Alike ns (dark ++ [i]) := by
  obtain ⟨h1, h2, h3⟩ := h
  have nd : (dark ++ [i]).Nodup := by
    rw [List.nodup_append]
    refine ⟨(rising_pw h3).imp fun h => by omega, by simp, fun a ha b hb e => ?_⟩
    have hb : b = i := by simpa using hb
    rw [e, hb] at ha
    exact hi ha
  refine ⟨⟨by rw [hp.length_eq, List.length_append, List.length_singleton]; omega, fun d hd => ?_, pw_rising (pw_lt hs (hp.nodup_iff.mpr nd))⟩, fun j => hp.mem_iff⟩
  rcases List.mem_append.mp (hp.mem_iff.mp hd) with hd | hd
  · exact h2 d hd
  · have hd : d = i := by simpa using hd
    rw [hd]
    exact ⟨i0, i1⟩
theorem ok_splitS {f : Addr} {fd : FuncData} {n : Nat} (F : Fun K "lets_split" "lets_split" s_lets_split f fd) (B : Bi mg) (Bs : mg "sorted" = none) (D_is_free_day : Def P w K mg base "is_free_day" 3 ["bakery", "lit", "dark", "thing"] (spFree K)) (D_lets_node : Def P w K mg base "lets_node" (8 + 2 * n) ["bakery", "cost", "thing", "lit", "dark"] (spNodeL K n)) : FnOk P w K mg base CX0 (8 + 2 * n + 1) f fd ["bakery", "cost", "thing", "lit", "dark"] (spSplitL K n) := by
  refine F.ok sc_lets_split (fun vs H Q E h => ?_) (fun cdv A outer s H vs Q E hr h => ?_)
  · obtain ⟨_, _, _, _, _, _, _, _, _, rfl, _⟩ := h
    rfl
  · obtain ⟨x, b, cost, t, d, p, q', lit, dark, rfl, hx, hb, ht, hp, hq, hlo, hdo, hl50, hd50, hn40, hdeep, hsp, q⟩ := h
    refine ⟨_, (pss_cons (ps_asg (pv 2) (pg_tup rfl (pgs_cons (pg_name (i := 5) sc_lets_split.nd rfl (Or.inl rfl)) (pgs_cons (pg_name (i := 6) sc_lets_split.nd rfl (Or.inl rfl)) (pgs_cons (pg_name (i := 7) sc_lets_split.nd rfl (Or.inl rfl)) (pgs_cons (pg_name (i := 8) sc_lets_split.nd rfl (Or.inl rfl)) pgs_nil))))))
 (pss_cons (ps_if (pt_not (pt_val (pe_callD D_is_free_day hr (by rfl) (pa_cons (pv 0) (pa_cons (pv 3) (pa_cons (pv 4) (pa_cons (pv 6) pa_nil))))))) (pss_one (ps_ret pe_bl)) pss_nil)
 (pss_cons (ps_if (pt_not (pt_val (pe_callD D_lets_node hr (by rfl) (pa_cons (pv 0) (pa_cons (pv 1) (pa_cons (pv 7) (pa_cons (pv 3) (pa_cons (pe_callB cr_sortedI (by rfl) Bs (by decide +kernel) (pa_cons (pe_op op_catL (pv 4) (pe_lst (pa_cons (pv 6) pa_nil))) pa_nil)) pa_nil)))))))) (pss_one (ps_ret pe_bl)) pss_nil)
 (pss_one (ps_ret (pe_callD D_lets_node hr (by rfl) (pa_cons (pv 0) (pa_cons (pv 1) (pa_cons (pv 8) (pa_cons (pe_callB cr_sortedI (by rfl) Bs (by decide +kernel) (pa_cons (pe_op op_catL (pv 3) (pe_lst (pa_cons (pv 6) pa_nil))) pa_nil)) (pa_cons (pv 4) pa_nil))))))))))), ?_⟩
    obtain ⟨xd, c, e, rfl⟩ := head_split hsp
    cases ht with
    | @tup a xs _ hs ha =>
    cases ha with
    | @cons v0 _ r0 _ h0 ha => cases ha with
    | @cons v1 _ r1 _ h1 ha => cases ha with
    | @cons v2 _ r2 _ h2 ha => cases ha with
    | @cons v3 _ r3 _ h3 ha =>
    cases ha
    walk_at "wp"
    refine ⟨_, hs, rfl, ?_⟩
    walk_at "wp"
    refine ⟨x, b, p, q', v1, xd, lit, dark, rfl, hx, hp, hq, h1, fun H1 S1 => ?_⟩
    walk_at "wp"
    have hn4 : n + 1 ≤ 40 := hn40
    rw [treeB_split] at q
    cases hf : freeB b.lights.length lit dark xd with
    | false =>
      rw [if_pos (by rfl)]
      rw [hf] at q
      exact q _ S1
    | true =>
      rw [if_neg (by decide)]
      obtain ⟨i, rfl, i0, i1, i2, i3⟩ : ∃ i, xd = .int i ∧ 0 ≤ i ∧ i < (b.lights.length : Int) ∧ i ∉ lit ∧ i ∉ dark := by
        cases xd with
        | int i =>
          simp only [freeB, Bool.and_eq_true, decide_eq_true_eq, Bool.not_eq_true', decide_eq_false_iff_not] at hf
          exact ⟨i, rfl, hf.1.1, hf.1.2, hf.2.1, hf.2.2⟩
        | _ => cases hf
      cases h1
      rw [hf, Bool.true_and] at q
      refine ⟨sz100 (by decide), fun p1 hp1 => ?_⟩
      have S2 := S1.trans (same_upd (o := .lst [V.int i]) hp1)
      have E2 : upd H1 p1 (.lst [V.int i]) p1 = some (.lst [V.int i]) := upd_same
      generalize upd H1 p1 (.lst [V.int i]) = H2 at S2 E2 ⊢
      refine ⟨_, _, S2.seq hq, SqL.of E2, sz100 (by simp; omega), fun p2 hp2 => ?_⟩
      have U3 := same_upd (o := .lst (dark.map V.int ++ [V.int i])) hp2
      have E3 : upd H2 p2 (.lst (dark.map V.int ++ [V.int i])) p2 = some (.lst ((dark ++ [i]).map V.int)) := by rw [upd_same, List.map_append]; rfl
      generalize upd H2 p2 (.lst (dark.map V.int ++ [V.int i])) = H3 at U3 E3 ⊢
      refine ⟨p2, _, rfl, SqL.of E3, fun ns pS hperm hsort hpS => ?_⟩
      obtain ⟨dk1, dk2⟩ := darkOk_add hdo hperm hsort i0 i1 i3 (by omega)
      have U4 := same_upd (o := .lst (ns.map V.int)) hpS
      have E4 : upd H3 pS (.lst (ns.map V.int)) pS = some (.lst (ns.map V.int)) := upd_same
      generalize upd H3 pS (.lst (ns.map V.int)) = H4 at U4 E4 ⊢
      have S4 := S2.trans (U3.trans U4)
      have hdd := hdeep _ _ _ _ rfl hsp
      have hnl : ns.length = dark.length + 1 := by rw [hperm.length_eq, List.length_append]; rfl
      refine ⟨x, b, cost, v2, c, p, pS, lit, ns, rfl, hx.same S4, hb, h2.same S4, S4.seq hp, SqL.of E4, hlo, dk1, by omega, by omega, by omega, hdd.1, fun H5 S5 => ?_⟩
      rw [treeB_alike n c (fun _ => Iff.rfl) dk2]
      walk_at "wp"
      have S5 := S4.trans S5
      cases hc : treeB b cost n c lit (dark ++ [i]) with
      | false =>
        rw [if_pos (by rfl)]
        rw [show intOf (.int i) = i from rfl, hc, Bool.false_and] at q
        exact q _ S5
      | true =>
        rw [if_neg (by decide)]
        rw [show intOf (.int i) = i from rfl, hc, Bool.true_and] at q
        refine ⟨sz100 (by decide), fun p6 hp6 => ?_⟩
        have S6 := S5.trans (same_upd (o := .lst [V.int i]) hp6)
        have E6 : upd H5 p6 (.lst [V.int i]) p6 = some (.lst [V.int i]) := upd_same
        generalize upd H5 p6 (.lst [V.int i]) = H6 at S6 E6 ⊢
        refine ⟨_, _, S6.seq hp, SqL.of E6, sz100 (by simp; omega), fun p7 hp7 => ?_⟩
        have U7 := same_upd (o := .lst (lit.map V.int ++ [V.int i])) hp7
        have E7 : upd H6 p7 (.lst (lit.map V.int ++ [V.int i])) p7 = some (.lst ((lit ++ [i]).map V.int)) := by rw [upd_same, List.map_append]; rfl
        generalize upd H6 p7 (.lst (lit.map V.int ++ [V.int i])) = H7 at U7 E7 ⊢
        refine ⟨p7, _, rfl, SqL.of E7, fun ns pS hperm hsort hpS => ?_⟩
        obtain ⟨dk1, dk2⟩ := darkOk_add hlo hperm hsort i0 i1 i2 (by omega)
        have U8 := same_upd (o := .lst (ns.map V.int)) hpS
        have E8 : upd H7 pS (.lst (ns.map V.int)) pS = some (.lst (ns.map V.int)) := upd_same
        generalize upd H7 pS (.lst (ns.map V.int)) = H8 at U8 E8 ⊢
        have S8 := S6.trans (U7.trans U8)
        have hnl : ns.length = lit.length + 1 := by rw [hperm.length_eq, List.length_append]; rfl
        refine ⟨x, b, cost, v3, e, pS, q', ns, dark, rfl, hx.same S8, hb, h3.same S8, SqL.of E8, S8.seq hq, dk1, hdo, by omega, by omega, by omega, hdd.2, fun H9 S9 => ?_⟩
        rw [treeB_alike n e dk2 (fun _ => Iff.rfl)]
        exact q _ (S8.trans S9)
end
end Bk

namespace Bk
open PySem PySem.Spec PyProof.Rows L2
local macro_rules | `(tactic| walk_at "wp") => `(tactic| try simp only [rGtT_r, tRaise1f, rSorTL_r, rSorTR_r, tCKw, tLc2_eq, rIntS_r, rLenS_r, rIxS_r, rInS_r, rSplit_r, iStr_eq, rNewStrs, iRng3_eq, rRng3_i, tM1, tFmt, iLT, tAugS, tScT2, rSetL_r, rSetOf2_r, rSorDT_r, rSetD, tDGet2, tDGet, tDNewT, rExtend_r, rSortU_r, rSetOf_r, rSortedSet_r, rNinr_r, rNeN_r, rCatL_r, rSlT_r, rListOf_r, rIsB_b, rNotB_b, tFmtO, tJs, tOst, tCallS, WE, tRaise2, rOne_i, rSorD_r, tDNewK, Int.zero_add, tNever, tFor_eq, tLc_eq, iList, iTup, iRng1_eq, rRng1_i, iRng2_eq, rRng2_i, iEnum_eq, rEnum_r, iZip_eq, rZip_r, tSl, tPart, tNoPart, rSlL_r, rCat_r, rIn_r, rNin_r, rRepr_r, iRevR, rMin_r, rShr_i, rOdd_i, rSetL_r, gSub, rRg1_i, rRg2_i, rInr_r, tAug, ipI_ii, tLstRg, tRg1, tRg2, gTup_r, gUnl_r, rInt1_b, rInt1_i, rRep_r, tStep_r, scal, tSeq, tNext, tAsg, tRet, tRetN, tIfS, tDrop, tCB, tCons, tNil, tVar, tOp, tUn, tC, rU_i, rI_ii, rI0_ii, rEq, rNe, tTest, tB, tAnd, tOr, tNot, tAndV, tOrV, tNotV, tIf, tChain, tLst, tTup, tBM, tBM0, rAppend_r, rIxL_r, rIxT_r, rMx_ii, rMn_ii, rLnL_r, rLnT_r, rIsD_int, rIsD_bool, rIsD_list, rIsD_tuple, tCall, gName, gNil_n, gCons_c, cxK, L2.start, List.map, List.replicate, List.length_cons, List.length_nil, List.cons_append, List.nil_append, List.append_nil, List.getElem?_cons_zero, List.getElem?_cons_succ, Option.some.injEq, exists_eq_left', exists_eq_left, V.int.injEq, V.bl.injEq, V.str.injEq, V.ref.injEq, List.cons.injEq, and_true, true_and, and_self, List.set, wipe, rAll_r, rSum_r, reduceCtorEq, decide_true, decide_false, reduceIte, ite_true, ite_false, if_true, if_false, Bool.false_eq_true, Bool.not_true, Bool.not_false])
local macro_rules | `(tactic| walk_at "shaped") => `(tactic| (simp only [rGtT_r, SeqAt.shaped, PyData.canLay0, PyData.canLayAll0, PyData.depth, PyData.depthAll]; rfl))
local macro_rules | `(tactic| walk_at "lay") => `(tactic| (simp only [rGtT_r, PyData.canLay0, PyData.canLayAll0]; rfl))
local macro_rules | `(tactic| walk_at "wg") => `(tactic| try simp only [gName, gTup_r, gCons_c, gNil_n, cxK, List.set, List.cons.injEq, and_true, true_and, exists_eq_left', exists_eq_left, List.length_cons, List.length_nil])
section
variable {P : Program} {w : World} {K : PySem.W.Frag} {mg : Str → Option Value} {base : Heap}
abbrev s_lets_node : Stmt := top 50
theorem sc_lets_node : FnScope ["bakery", "cost", "thing", "lit", "dark"] ["bakery", "cost", "thing", "lit", "dark"] (defScope s_lets_node) := ⟨rfl, rfl, rfl, by decide +kernel, rfl, by decide +kernel, by decide +kernel⟩
theorem ints_inj : ∀ {a b : List Int}, a.map PyData.int = b.map PyData.int → a = b
  | [], [], _ => rfl
  | [], _ :: _, h => by cases h
  | _ :: _, [], h => by cases h
  | x :: a, y :: b, h => by
    rw [List.map_cons, List.map_cons] at h
    injection h with h1 h2
    cases h1
    rw [ints_inj h2]
theorem pricesD_inj {W W' : List (List Int)} (h : pricesD W = pricesD W') : W = W' := by
  unfold pricesD at h
  injection h with h
  induction W generalizing W' with
  | nil => cases W' with
    | nil => rfl
    | cons _ _ => cases h
  | cons w W ih => cases W' with
    | nil => cases h
    | cons w' W' =>
      rw [List.map_cons, List.map_cons] at h
      injection h with h1 h2
      injection h1 with h1
      rw [ints_inj h1, ih h2]
theorem ok_nodeS {f : Addr} {fd : FuncData} {n : Nat} {sp : Sp} {t1 t2 t3 : Tok} (F : Fun K "lets_node" "lets_node" s_lets_node f fd) (B : Bi mg) (M_SPLIT : mg "SPLIT" = some (.str "split" t1)) (M_STRETCH : mg "STRETCH" = some (.str "stretch" t2)) (M_PRICES : mg "PRICES" = some (.str "prices" t3)) (D_is_node : Def P w K mg base "is_node" 2 ["thing", "word", "many"] (spNode K)) (D_wants_too_much : Def P w K mg base "wants_too_much" 7 ["bakery", "dark", "thing"] (spWtmA K)) (D_are_loaf_prices : Def P w K mg base "are_loaf_prices" 7 ["bakery", "thing"] (spALP K)) (D_bottom : Def P w K mg base "bottom" 7 ["bakery", "prices", "lit", "dark"] (spBottom K)) (D_lets_split : Def P w K mg base "lets_split" (7 + 2 * n) ["bakery", "cost", "thing", "lit", "dark"] sp) (hsp : n = 0 ∨ ∃ m, n = m + 1 ∧ sp = spSplitL K m) : FnOk P w K mg base CX0 (7 + 2 * n + 1) f fd ["bakery", "cost", "thing", "lit", "dark"] (spNodeL K n) := by
  refine F.ok sc_lets_node (fun vs H Q E h => ?_) (fun cdv A outer s H vs Q E hr h => ?_)
  · obtain ⟨_, _, _, _, _, _, _, _, _, rfl, _⟩ := h
    rfl
  · obtain ⟨x, b, cost, t, d, p, q', lit, dark, rfl, hx, hb, ht, hp, hq, hlo, hdo, hl50, hd50, hn40, hdeep, q⟩ := h
    refine ⟨_, (pss_cons (ps_if (pt_val (pe_callD D_is_node hr (by rfl) (pa_cons (pv 2) (pa_cons (pe_globS rfl M_SPLIT) (pa_cons pe_int pa_nil))))) (pss_one (ps_ret (pe_callD D_lets_split hr (by rfl) (pa_cons (pv 0) (pa_cons (pv 1) (pa_cons (pv 2) (pa_cons (pv 3) (pa_cons (pv 4) pa_nil)))))))) pss_nil)
 (pss_cons (ps_if (pt_val (pe_callD D_is_node hr (by rfl) (pa_cons (pv 2) (pa_cons (pe_globS rfl M_STRETCH) (pa_cons pe_int pa_nil))))) (pss_one (ps_ret (pe_callD D_wants_too_much hr (by rfl) (pa_cons (pv 0) (pa_cons (pv 4) (pa_cons (pe_slice sl_tupA (pv 2) (po_some pe_int) po_none) pa_nil)))))) pss_nil)
 (pss_cons (ps_if (pt_val (pe_callD D_is_node hr (by rfl) (pa_cons (pv 2) (pa_cons (pe_globS rfl M_PRICES) (pa_cons pe_int pa_nil))))) (pss_one (ps_ret (pe_and (pe_callD D_are_loaf_prices hr (by rfl) (pa_cons (pv 0) (pa_cons (pe_ix ix_tup (pv 2) pe_int (fun _ _ => rfl)) pa_nil))) (pe_one (pe_cmpR op_ge (pe_callD D_bottom hr (by rfl) (pa_cons (pv 0) (pa_cons (pe_ix ix_tup (pv 2) pe_int (fun _ _ => rfl)) (pa_cons (pv 3) (pa_cons (pv 4) pa_nil))))) (pv 1) (nomark _)))))) pss_nil)
 (pss_one (ps_ret pe_bl))))), ?_⟩
    walk_at "wp"
    refine ⟨t, d, "split", 4, rfl, by decide, ht, fun H1 S1 => ?_⟩
    walk_at "wp"
    cases hh : headB "split" 4 d with
    | true =>
      rw [if_pos rfl]
      rcases hsp with rfl | ⟨m, rfl, rfl⟩
      · have hdeep : headB "split" 4 d = false := hdeep
        rw [hh] at hdeep
        cases hdeep
      · exact ⟨x, b, cost, t, d, p, q', lit, dark, rfl, hx.same S1, hb, ht.same S1, S1.seq hp, S1.seq hq, hlo, hdo, hl50, hd50, hn40, hdeep, hh, fun H2 S2 => q _ (S1.trans S2)⟩
    | false =>
      rw [if_neg (by decide)]
      rw [treeB_leaf hh] at q
      unfold leafB at q
      refine ⟨t, d, "stretch", 3, rfl, by decide, ht.same S1, fun H2 S2 => ?_⟩
      walk_at "wp"
      have S2 := S1.trans S2
      cases hs : headB "stretch" 3 d with
      | true =>
        rw [if_pos rfl]
        rw [hs, if_pos rfl] at q
        obtain ⟨z0, z1, z2, rfl⟩ : ∃ z0 z1 z2, d = .tuple [z0, z1, z2] := by
          match d, hs with
          | .tuple (.str z :: r), hs =>
            simp only [headB, Bool.and_eq_true, decide_eq_true_eq] at hs
            match r, hs.1 with
            | [a, b], _ => exact ⟨_, _, _, rfl⟩
        cases ht with
        | @tup a xs _ hts ha =>
        cases ha with
        | @cons v0 _ r0 _ h0 ha => cases ha with
        | @cons v1 _ r1 _ h1 ha => cases ha with
        | @cons v2 _ r2 _ h2 ha =>
        cases ha
        refine ⟨a, _, rfl, Same.tup S2 hts, fun z => ?_, fun _ ps hps => ?_⟩
        · have z1 : HT.sIx 3 0 (some 1) = 0 := z.1
          exact absurd z1 (by decide)
        rw [show cutV [v0, v1, v2] (some 1) none = [v1, v2] from cutV_from _ 1]
        have S4 := S2.trans (same_upd (o := .tup [v1, v2]) hps)
        have E4 : upd H2 ps (.tup [v1, v2]) ps = some (.tup [v1, v2]) := upd_same
        generalize upd H2 ps (.tup [v1, v2]) = H4 at S4 E4 ⊢
        have q : ∀ H', Same H H' → Q (.bl (stB b dark z1 z2)) H' := q
        cases hstr : strB b.lights.length (.tuple [z1, z2]) with
        | false =>
          have e : stB b dark z1 z2 = false := by unfold stB; rw [hstr, Bool.false_and]
          rw [e] at q
          exact .inr ⟨x, b, q', dark, _, .tuple [z1, z2], rfl, hx.same S4, hb, S4.seq hq, hdo, .tup (SqT.of E4) (.cons (h1.same S4) (.cons (h2.same S4) .nil)), hstr, fun H5 S5 => q _ (S4.trans S5)⟩
        | true =>
          have hstr0 := hstr
          simp only [strB, Bool.and_eq_true] at hstr
          obtain ⟨k1, k2, k3⟩ := hstr
          obtain ⟨i, rfl, i0, i1⟩ := plB_int k1
          obtain ⟨j, rfl, j0, j1⟩ := plB_int k2
          simp only [leD, decide_eq_true_eq] at k3
          cases h1
          cases h2
          have e : stB b dark (.int i) (.int j) = overD b dark i.toNat j.toNat := by unfold stB; rw [hstr0, Bool.true_and]; rfl
          rw [e] at q
          refine .inl ⟨x, b, q', dark, ps, i.toNat, j.toNat, rfl, hx.same S4, hb, S4.seq hq, hdo, ?_, by omega, by omega, fun H5 S5 => q _ (S4.trans S5)⟩
          rw [show ((i.toNat : Nat) : Int) = i by omega, show ((j.toNat : Nat) : Int) = j by omega]
          exact SqT.of E4
      | false =>
        rw [if_neg (by decide)]
        rw [hs, if_neg (by decide)] at q
        refine ⟨t, d, "prices", 2, rfl, by decide, ht.same S2, fun H3 S3 => ?_⟩
        walk_at "wp"
        have S3 := S2.trans S3
        cases hpr : headB "prices" 2 d with
        | true =>
          rw [if_pos rfl]
          rw [hpr, if_pos rfl] at q
          obtain ⟨z0, z1, rfl⟩ : ∃ z0 z1, d = .tuple [z0, z1] := by
            match d, hpr with
            | .tuple (.str z :: r), hpr =>
              simp only [headB, Bool.and_eq_true, decide_eq_true_eq] at hpr
              match r, hpr.1 with
              | [a], _ => exact ⟨_, _, rfl⟩
          cases ht with
          | @tup a xs _ hts ha =>
          cases ha with
          | @cons v0 _ r0 _ h0 ha => cases ha with
          | @cons v1 _ r1 _ h1 ha =>
          cases ha
          have q : ∀ H', Same H H' → Q (.bl (prB b cost z1 lit dark)) H' := q
          walk_at "wp"
          refine ⟨_, _, Same.tup S3 hts, atI_nat (j := 1) rfl, ?_⟩
          refine ⟨x, b, v1, z1, rfl, hx.same S3, hb, h1.same S3, fun H4 r S4 hr => ?_⟩
          walk_at "wp"
          have S4 := S3.trans S4
          cases r with
          | false =>
            rw [if_neg (by decide)]
            have e : prB b cost z1 lit dark = false := by
              rw [← Bool.not_eq_true, prB_iff]
              rintro ⟨W, h3, h4, _⟩
              cases hr.mpr ⟨W, h3, h4⟩
            rw [e] at q
            exact q _ S4
          | true =>
            rw [if_pos rfl]
            obtain ⟨W, rfl, hW⟩ := hr.mp rfl
            refine ⟨_, _, Same.tup S4 hts, atI_nat (j := 1) rfl, ?_⟩
            refine ⟨x, b, v1, W, p, q', lit, dark, rfl, hx.same S4, hb, h1.same S4, hW, S4.seq hp, S4.seq hq, fun H5 S5 => ?_⟩
            walk_at "wp"
            have e : prB b cost (pricesD W) lit dark = decide (cost ≤ bottomV b W lit dark) := by
              rw [Bool.eq_iff_iff, prB_iff, decide_eq_true_iff]
              constructor
              · rintro ⟨W', h3, h4, h5⟩
                rw [pricesD_inj h3]
                exact h5
              · exact fun h5 => ⟨W, rfl, hW, h5⟩
            rw [e] at q
            exact q _ (S4.trans S5)
        | false =>
          rw [if_neg (by decide)]
          rw [hpr, if_neg (by decide)] at q
          exact q _ S3
theorem ok_splitN {f : Addr} {fd : FuncData} {n : Nat} (F : Fun K "lets_split" "lets_split" s_lets_split f fd) (B : Bi mg) (Bs : mg "sorted" = none) (D_is_free_day : Def P w K mg base "is_free_day" 3 ["bakery", "lit", "dark", "thing"] (spFree K)) (D_lets_node : Def P w K mg base "lets_node" (8 + 2 * n) ["bakery", "cost", "thing", "lit", "dark"] (spNodeL K n)) : FnOk P w K mg base CX0 (7 + 2 * (n + 1)) f fd ["bakery", "cost", "thing", "lit", "dark"] (spSplitL K n) := by
  have h := ok_splitS F B Bs D_is_free_day D_lets_node
  rw [show 7 + 2 * (n + 1) = 8 + 2 * n + 1 by omega]
  exact h
theorem ok_nodeK {f f2 : Addr} {fd fd2 : FuncData} {t1 t2 t3 : Tok} (F : Fun K "lets_node" "lets_node" s_lets_node f fd) (B : Bi mg) (Bs : mg "sorted" = none) (M_SPLIT : mg "SPLIT" = some (.str "split" t1)) (M_STRETCH : mg "STRETCH" = some (.str "stretch" t2)) (M_PRICES : mg "PRICES" = some (.str "prices" t3)) (D_is_node : Def P w K mg base "is_node" 2 ["thing", "word", "many"] (spNode K)) (D_wants_too_much : Def P w K mg base "wants_too_much" 7 ["bakery", "dark", "thing"] (spWtmA K)) (D_are_loaf_prices : Def P w K mg base "are_loaf_prices" 7 ["bakery", "thing"] (spALP K)) (D_bottom : Def P w K mg base "bottom" 7 ["bakery", "prices", "lit", "dark"] (spBottom K)) (D_is_free_day : Def P w K mg base "is_free_day" 3 ["bakery", "lit", "dark", "thing"] (spFree K)) (hm : mg "lets_node" = some (.ref f)) (hk : PySem.W.keepIn K (.ref f) = true) (hb : Binds K fd ["bakery", "cost", "thing", "lit", "dark"] []) (F2 : Fun K "lets_split" "lets_split" s_lets_split f2 fd2) (hm2 : mg "lets_split" = some (.ref f2)) (hk2 : PySem.W.keepIn K (.ref f2) = true) (hb2 : Binds K fd2 ["bakery", "cost", "thing", "lit", "dark"] []) : ∀ n : Nat, FnOk P w K mg base CX0 (7 + 2 * n + 1) f fd ["bakery", "cost", "thing", "lit", "dark"] (spNodeL K n)
  | 0 => ok_nodeS F B M_SPLIT M_STRETCH M_PRICES D_is_node D_wants_too_much D_are_loaf_prices D_bottom (sp := fun _ _ _ _ => False) ⟨_, _, hm2, hk2, hb2, ⟨fun _ _ _ _ h => h.elim, fun _ _ _ _ _ _ _ _ _ _ _ _ _ h => h.elim⟩⟩ (.inl rfl)
  | n + 1 => ok_nodeS F B M_SPLIT M_STRETCH M_PRICES D_is_node D_wants_too_much D_are_loaf_prices D_bottom ⟨_, _, hm2, hk2, hb2, ok_splitN F2 B Bs D_is_free_day ⟨_, _, hm, hk, hb, by
      have h := ok_nodeK F B Bs M_SPLIT M_STRETCH M_PRICES D_is_node D_wants_too_much D_are_loaf_prices D_bottom D_is_free_day hm hk hb F2 hm2 hk2 hb2 n
      rw [show 8 + 2 * n = 7 + 2 * n + 1 by omega]
      exact h⟩⟩ (.inr ⟨n, rfl, rfl⟩)
theorem ok_lets_node {f f2 : Addr} {fd fd2 : FuncData} {t1 t2 t3 : Tok} (F : Fun K "lets_node" "lets_node" s_lets_node f fd) (B : Bi mg) (Bs : mg "sorted" = none) (M_SPLIT : mg "SPLIT" = some (.str "split" t1)) (M_STRETCH : mg "STRETCH" = some (.str "stretch" t2)) (M_PRICES : mg "PRICES" = some (.str "prices" t3)) (D_is_node : Def P w K mg base "is_node" 2 ["thing", "word", "many"] (spNode K)) (D_wants_too_much : Def P w K mg base "wants_too_much" 7 ["bakery", "dark", "thing"] (spWtmA K)) (D_are_loaf_prices : Def P w K mg base "are_loaf_prices" 7 ["bakery", "thing"] (spALP K)) (D_bottom : Def P w K mg base "bottom" 7 ["bakery", "prices", "lit", "dark"] (spBottom K)) (D_is_free_day : Def P w K mg base "is_free_day" 3 ["bakery", "lit", "dark", "thing"] (spFree K)) (hm : mg "lets_node" = some (.ref f)) (hk : PySem.W.keepIn K (.ref f) = true) (hb : Binds K fd ["bakery", "cost", "thing", "lit", "dark"] []) (F2 : Fun K "lets_split" "lets_split" s_lets_split f2 fd2) (hm2 : mg "lets_split" = some (.ref f2)) (hk2 : PySem.W.keepIn K (.ref f2) = true) (hb2 : Binds K fd2 ["bakery", "cost", "thing", "lit", "dark"] []) : FnOk P w K mg base CX0 48 f fd ["bakery", "cost", "thing", "lit", "dark"] (spNodeL K 20) := ok_nodeK F B Bs M_SPLIT M_STRETCH M_PRICES D_is_node D_wants_too_much D_are_loaf_prices D_bottom D_is_free_day hm hk hb F2 hm2 hk2 hb2 20
abbrev s_lets_tree : Stmt := top 51
theorem sc_lets_tree : FnScope ["bakery", "cost", "thing"] ["bakery", "cost", "thing"] (defScope s_lets_tree) := ⟨rfl, rfl, rfl, by decide +kernel, rfl, by decide +kernel, by decide +kernel⟩
def spTree (K : PySem.W.Frag) : Sp := fun vs H Q _ => ∃ x b cost t d, vs = [x, .int cost, t] ∧ Th K H x (bakD b) ∧ bakB (bakD b) = true ∧ Th K H t d ∧ Deep 20 d ∧ ∀ H', Same H H' → Q (.bl (treeB b cost 20 d [] [])) H'
theorem ok_lets_tree {f : Addr} {fd : FuncData} (F : Fun K "lets_tree" "lets_tree" s_lets_tree f fd) (B : Bi mg) (D_look_at_bakery : Def P w K mg base "look_at_bakery" 6 ["thing"] (spLook K)) (D_lets_node : Def P w K mg base "lets_node" 48 ["bakery", "cost", "thing", "lit", "dark"] (spNodeL K 20)) : FnOk P w K mg base CX0 49 f fd ["bakery", "cost", "thing"] (spTree K) := by
  refine F.ok sc_lets_tree (fun vs H Q E h => ?_) (fun cdv A outer s H vs Q E hr h => ?_)
  · obtain ⟨_, _, _, _, _, rfl, _⟩ := h
    rfl
  · obtain ⟨x, b, cost, t, d, rfl, hx, hb, ht, hd, q⟩ := h
    refine ⟨_, (pss_cons (ps_expr (pe_callD D_look_at_bakery hr (by rfl) (pa_cons (pv 0) pa_nil)))
 (pss_one (ps_ret (pe_callD D_lets_node hr (by rfl) (pa_cons (pv 0) (pa_cons (pv 1) (pa_cons (pv 2) (pa_cons (pe_lst pa_nil) (pa_cons (pe_lst pa_nil) pa_nil))))))))), ?_⟩
    walk_at "wp"
    refine ⟨_, _, rfl, hx, hb, fun H1 S1 => ⟨sz100 (by decide), fun p1 hp1 => ⟨sz100 (by decide), fun p2 hp2 => ?_⟩⟩⟩
    have S2 := same_upd (o := .lst []) hp1
    have E2 : upd H1 p1 (.lst []) p1 = some (.lst (([] : List Int).map V.int)) := upd_same
    generalize upd H1 p1 (.lst []) = H2 at S2 E2 hp2 ⊢
    have S3 := same_upd (o := .lst []) hp2
    have E3 : upd H2 p2 (.lst []) p2 = some (.lst (([] : List Int).map V.int)) := upd_same
    generalize upd H2 p2 (.lst []) = H3 at S3 E3 ⊢
    have S13 := S1.trans (S2.trans S3)
    have dk : DarkOk [] b.lights.length := ⟨by decide, fun d hd => (by cases hd), trivial⟩
    exact ⟨x, b, cost, t, d, p1, p2, [], [], rfl, hx.same S13, hb, ht.same S13, SqL.of (S3 _ _ E2), SqL.of E3, dk, dk, by decide, by decide, by decide, hd, fun H4 S4 => q _ (S13.trans S4)⟩
end
end Bk

namespace Bk
open PySem PySem.Spec PyProof.Rows L2
local macro_rules | `(tactic| walk_at "wp") => `(tactic| try simp only [rGtT_r, tRaise1f, rSorTL_r, rSorTR_r, tCKw, tLc2_eq, rIntS_r, rLenS_r, rIxS_r, rInS_r, rSplit_r, iStr_eq, rNewStrs, iRng3_eq, rRng3_i, tM1, tFmt, iLT, tAugS, tScT2, rSetL_r, rSetOf2_r, rSorDT_r, rSetD, tDGet2, tDGet, tDNewT, rExtend_r, rSortU_r, rSetOf_r, rSortedSet_r, rNinr_r, rNeN_r, rCatL_r, rSlT_r, rListOf_r, rIsB_b, rNotB_b, tFmtO, tJs, tOst, tCallS, WE, tRaise2, rOne_i, rSorD_r, tDNewK, Int.zero_add, tNever, tFor_eq, tLc_eq, iList, iTup, iRng1_eq, rRng1_i, iRng2_eq, rRng2_i, iEnum_eq, rEnum_r, iZip_eq, rZip_r, tSl, tPart, tNoPart, rSlL_r, rCat_r, rIn_r, rNin_r, rRepr_r, iRevR, rMin_r, rShr_i, rOdd_i, rSetL_r, gSub, rRg1_i, rRg2_i, rInr_r, tAug, ipI_ii, tLstRg, tRg1, tRg2, gTup_r, gUnl_r, rInt1_b, rInt1_i, rRep_r, tStep_r, scal, tSeq, tNext, tAsg, tRet, tRetN, tIfS, tDrop, tCB, tCons, tNil, tVar, tOp, tUn, tC, rU_i, rI_ii, rI0_ii, rEq, rNe, tTest, tB, tAnd, tOr, tNot, tAndV, tOrV, tNotV, tIf, tChain, tLst, tTup, tBM, tBM0, rAppend_r, rIxL_r, rIxT_r, rMx_ii, rMn_ii, rLnL_r, rLnT_r, rIsD_int, rIsD_bool, rIsD_list, rIsD_tuple, tCall, gName, gNil_n, gCons_c, cxK, L2.start, List.map, List.replicate, List.length_cons, List.length_nil, List.cons_append, List.nil_append, List.append_nil, List.getElem?_cons_zero, List.getElem?_cons_succ, Option.some.injEq, exists_eq_left', exists_eq_left, V.int.injEq, V.bl.injEq, V.str.injEq, V.ref.injEq, List.cons.injEq, and_true, true_and, and_self, List.set, wipe, rAll_r, rSum_r, reduceCtorEq, decide_true, decide_false, reduceIte, ite_true, ite_false, if_true, if_false, Bool.false_eq_true, Bool.not_true, Bool.not_false])
local macro_rules | `(tactic| walk_at "shaped") => `(tactic| (simp only [rGtT_r, SeqAt.shaped, PyData.canLay0, PyData.canLayAll0, PyData.depth, PyData.depthAll]; rfl))
local macro_rules | `(tactic| walk_at "lay") => `(tactic| (simp only [rGtT_r, PyData.canLay0, PyData.canLayAll0]; rfl))
local macro_rules | `(tactic| walk_at "wg") => `(tactic| try simp only [gName, gTup_r, gCons_c, gNil_n, cxK, List.set, List.cons.injEq, and_true, true_and, exists_eq_left', exists_eq_left, List.length_cons, List.length_nil])
section
variable {P : Program} {w : World} {K : PySem.W.Frag} {mg : Str → Option Value} {base : Heap}
abbrev s_price : Stmt := top 59
theorem sc_price : FnScope ["_law_good", "_law_baked", "_law_given", "_law_days_here", "_law_life", "_law_fines", "_law_row"] ["_law_good", "_law_baked", "_law_given"] (defScope s_price) := ⟨rfl, rfl, rfl, by decide +kernel, rfl, by decide +kernel, by decide +kernel⟩
def spLPrice (K : PySem.W.Frag) : Sp := fun vs H Q _ => ∃ x g, ∃ j k : Nat, vs = [x, .int (j : Int), .int (k : Int)] ∧ Th K H x (goodD g) ∧ g.days.length ≤ 1000 ∧ j < g.days.length ∧ ∀ H', Same H H' → Q (optV (loafP g j k)) H'
theorem ok_price {f : Addr} {fd : FuncData} (F : Fun K "_law_price" "_law_price" s_price f fd) (B : Bi mg) : FnOk P w K mg base CX0 1 f fd ["_law_good", "_law_baked", "_law_given"] (spLPrice K) := by
  refine F.ok sc_price (fun vs H Q E h => ?_) (fun cdv A outer s H vs Q E hr h => ?_)
  · obtain ⟨x, g, j, k, rfl, _⟩ := h
    rfl
  · obtain ⟨x, g, j, k, rfl, hx, hl, hj, q⟩ := h
    refine ⟨_, (pss_cons (ps_asg (pv 0) (pg_tup rfl (pgs_cons (pg_name (i := 3) sc_price.nd rfl (Or.inl rfl)) (pgs_cons (pg_name (i := 4) sc_price.nd rfl (Or.inl rfl)) pgs_nil))))
 (pss_cons (ps_if (pt_cmpR op_gt (pv 1) (pv 2) (nomark _)) (pss_cons (ps_setLc (i := 5) (own := [("_law_row", 6)]) (g := (gName 6)) (te := (tOp (rIxT K) _ _)) rfl sc_price.nd rfl rfl (sw_true rfl rfl rfl (by decide +kernel)) (pi_list (pe_slice sl_list (pv 3) (po_some (pv 2)) (po_some (pv 1)))) (blkOk_by (own := [("_law_row", 6)]) (N := ["_law_good", "_law_baked", "_law_given", "_law_days_here", "_law_life", "_law_fines", "_law_row"]) (sc := defScope s_price) (by decide +kernel)) (fun _ _ _ _ _ => (pg_name (i := 6) sc_price.nd rfl (Or.inl rfl))) (fun _ _ _ _ _ => pts_nil) (fun _ _ _ _ _ => (pe_ix ix_tup (pv 6) pe_int (fun _ _ => rfl))))
 (pss_one (ps_ret (pe_ifExp (pt_cmpR op_in_seq pe_non (pv 5) (by rfl)) pe_non (pe_op op_add (pe_ix ix_tup (pe_ix ix_list (pv 3) (pv 1) (fun _ _ => rfl)) pe_int (fun _ _ => rfl)) (pe_callB (cr_sum rfl) (by rfl) B.sum (by decide +kernel) (pa_cons (pv 5) pa_nil))))))) pss_nil)
 (pss_cons (ps_if (PW.pt (pw_and (pt_cmpR op_notN (pv 4) pe_non (nomark _)) (pw_and1 (pt_cmpR op_gt (pe_op op_sub (pv 2) (pv 1)) (pv 4) (nomark _))))) (pss_one (ps_ret pe_non)) pss_nil)
 (pss_one (ps_ret (pe_op op_add (pe_ix ix_tup (pe_ix ix_list (pv 3) (pv 1) (fun _ _ => rfl)) pe_int (fun _ _ => rfl)) (pe_callB (cr_sum rfl) (by rfl) B.sum (by decide +kernel) (pa_cons (pe_lc (own := [("_law_row", 6)]) (g := (gName 6)) (te := (tOp (rIxT K) _ _)) rfl sc_price.nd (pi_list (pe_slice sl_list (pv 3) (po_some (pv 1)) (po_some (pv 2)))) (blkOk_by (own := [("_law_row", 6)]) (N := ["_law_good", "_law_baked", "_law_given", "_law_days_here", "_law_life", "_law_fines", "_law_row"]) (sc := defScope s_price) (by decide +kernel)) (fun _ _ _ _ _ => (pg_name (i := 6) sc_price.nd rfl (Or.inl rfl))) (fun _ _ _ _ _ => pts_nil) (fun _ _ _ _ _ => (pe_ix ix_tup (pv 6) pe_int (fun _ _ => rfl)))) pa_nil)))))))), ?_⟩
    obtain ⟨t, a, xs, rfl, ht, hs, ha⟩ := hx.good
    have hd : g.days[j]? = some g.days[j] := List.getElem?_eq_getElem hj
    generalize g.days[j] = d at hd
    obtain ⟨v, hv, hvd⟩ := ha.get' (i := j) (d := dayD d) (by rw [List.getElem?_map, hd]; rfl)
    obtain ⟨t2, rfl, ht2⟩ := hvd.day
    walk_at "wp"
    refine ⟨_, ht, rfl, ?_⟩
    walk_at "wp"
    refine ite2 (fun h => ?_) (fun h => ?_)
    · have hkj : k < j := by have := of_decide_eq_true h; omega
      refine ⟨_, hs, fun p hp => ⟨⟨_, SqL.of upd_same⟩, fun D hD => ?_⟩⟩
      rw [cutV_nat] at hD ⊢
      have sp : Same H (upd H p (.lst ((xs.drop k).take (j - k)))) := same_upd hp
      have hL : SqL K (upd H p (.lst ((xs.drop k).take (j - k)))) p ((xs.drop k).take (j - k)) := SqL.of upd_same
      have hb := ((ha.same sp).drop k).take (j - k)
      rw [← List.map_drop, ← List.map_take] at hb
      generalize upd H p (.lst ((xs.drop k).take (j - k))) = Hb at sp hL hD hb ⊢
      generalize hcut : (g.days.drop k).take (j - k) = cs at hb
      have hcl : cs.length ≤ 1000 := by
        rw [← hcut, List.length_take, List.length_drop]
        omega
      have hbl := hb.length
      rw [List.length_map] at hbl
      refine LcR.map walk_list ((cs.map Day.fine).map optV) hD (by rw [List.length_map, List.length_map, hbl]) (by omega) (fun H s => s.seq hL) (fun _ _ _ _ y => yat_same y) (fun i x y H0 H1 hi s1 yy hy R hR => ?_) (fun H1 s1 hH => ?_)
      · obtain ⟨rfl, hx⟩ := yy
        obtain ⟨dd, hdd, hxd⟩ := hb.get hx
        rw [List.getElem?_map] at hdd hy
        rw [List.getElem?_map] at hy
        cases hc : cs[i]? with
        | none => rw [hc] at hdd; cases hdd
        | some c =>
          rw [hc] at hdd hy
          cases hdd
          cases hy
          obtain ⟨t, rfl, ht⟩ := (hxd.same s1).day
          walk_at "wp"
          refine ⟨_, _, ht, atI_nat (j := 3) rfl, ?_⟩
          exact hR _ (Same.refl _)
      · have S1 := sp.trans s1
        have q1 := q _ S1
        simp only [loafP, hd, hkj, if_true] at q1
        unfold finesL at q1
        rw [hcut] at q1
        walk_at "wp"
        refine ⟨_, .inl (SqL.of hH), rfl, flat_opts _, ite2 (fun h => ?_) (fun h => ?_)⟩
        · rw [sumO_none h] at q1
          exact q1
        · obtain ⟨ns, e1, e2⟩ := sumO_some (Bool.eq_false_iff.mpr h)
          rw [e2] at q1
          rw [e1] at hH
          refine ⟨_, _, S1.seq hs, atI_nat hv, ?_⟩
          walk_at "wp"
          refine ⟨_, _, Same.tup S1 ht2, atI_nat (j := 1) rfl, ?_⟩
          walk_at "wp"
          exact ⟨ns, SqL.of hH, q1⟩
    · have hkj : ¬ k < j := by intro z; exact h (decide_eq_true (by omega))
      have q1 := fun H1 s1 => q H1 s1
      simp only [loafP, hd, hkj, if_false] at q1
      have hkeep : ∀ lv : V, (∀ H1, Same H H1 → Q (.int (d.loaf + keepsL g.days j k)) H1) → ∃ xs v, SqL K H a xs ∧ atI xs (j : Int) = some v ∧ rIxT K v (V.int 1) H fun x H1 => ∃ xs, SqL K H1 a xs ∧ ∀ (p : Addr), H1 p = none → (∃ xs_1, SqL K (upd H1 p (HO.lst (cutV xs (some (j : Int)) (some (k : Int))))) p xs_1) ∧ ∀ (D : Addr), upd H1 p (HO.lst (cutV xs (some (j : Int)) (some (k : Int)))) D = none →
          LcR (Itl K p) (gName 6) tYes (tOp (rIxT K) (tVar 6) (tC (V.int 2))) [6] [some (V.ref t), some (V.int (j : Int)), some (V.int (k : Int)), some (V.ref a), some lv, none, none] D (upd H1 p (HO.lst (cutV xs (some (j : Int)) (some (k : Int))))) fun H => ∃ ns, SqL K H D (List.map V.int ns) ∧ rI0 (fun i j => V.int (i + j)) x (V.int ns.sum) H Q := by
        intro lv q2
        refine ⟨_, _, hs, atI_nat hv, ?_⟩
        walk_at "wp"
        refine ⟨_, _, ht2, atI_nat (j := 1) rfl, _, hs, fun p hp => ⟨⟨_, SqL.of upd_same⟩, fun D hD => ?_⟩⟩
        rw [cutV_nat] at hD ⊢
        have sp : Same H (upd H p (.lst ((xs.drop j).take (k - j)))) := same_upd hp
        have hL : SqL K (upd H p (.lst ((xs.drop j).take (k - j)))) p ((xs.drop j).take (k - j)) := SqL.of upd_same
        have hb := ((ha.same sp).drop j).take (k - j)
        rw [← List.map_drop, ← List.map_take] at hb
        generalize upd H p (.lst ((xs.drop j).take (k - j))) = Hb at sp hL hD hb ⊢
        generalize hcut : (g.days.drop j).take (k - j) = cs at hb
        have hcl : cs.length ≤ 1000 := by
          rw [← hcut, List.length_take, List.length_drop]
          omega
        have hbl := hb.length
        rw [List.length_map] at hbl
        refine LcR.map walk_list (cs.map fun d => V.int d.keep) hD (by rw [List.length_map, hbl]) (by omega) (fun H s => s.seq hL) (fun _ _ _ _ y => yat_same y) (fun i x y H0 H1 hi s1 yy hy R hR => ?_) (fun H1 s1 hH => ?_)
        · obtain ⟨rfl, hx⟩ := yy
          obtain ⟨dd, hdd, hxd⟩ := hb.get hx
          rw [List.getElem?_map] at hdd hy
          cases hc : cs[i]? with
          | none => rw [hc] at hdd; cases hdd
          | some c =>
            rw [hc] at hdd hy
            cases hdd
            cases hy
            obtain ⟨t, rfl, ht⟩ := (hxd.same s1).day
            walk_at "wp"
            exact ⟨_, _, ht, atI_nat (j := 2) rfl, hR _ (Same.refl _)⟩
        · refine ⟨cs.map Day.keep, SqL.of (by rw [List.map_map]; exact hH), ?_⟩
          have q3 := q2 _ (sp.trans s1)
          unfold keepsL at q3
          rw [hcut] at q3
          exact ⟨_, _, rfl, rfl, q3⟩
      cases hlf : g.life with
      | none =>
        simp only [hlf] at q1
        simp only [optV]
        walk_at "wp"
        exact hkeep _ q1
      | some l =>
        simp only [hlf] at q1
        simp only [optV]
        walk_at "wp"
        refine ite2 (fun h2 => ?_) (fun h2 => ?_)
        · have := q1 H (Same.refl _)
          rw [if_pos (of_decide_eq_true h2)] at this
          exact this
        · refine hkeep _ fun H1 s1 => ?_
          have := q1 H1 s1
          rw [if_neg (fun z => h2 (decide_eq_true z))] at this
          exact this
def lgainV (b : Bak) (W : List (List Int)) (j : Nat) : Int := lfill b.bound (sortO (lofB b.goods W j b.lights.length b.goods.length))
theorem lof_in {b : Bak} (hb : bakB (bakD b) = true) {W : List (List Int)} {j n i : Nat} : ∀ o ∈ lofB b.goods W j n i, 0 < o.2 ∧ o.2 ≤ 1000000000 := fun o ho => by
  obtain ⟨q, _, ho⟩ := List.mem_flatMap.mp ho
  obtain ⟨k, _, ho⟩ := List.mem_flatMap.mp ho
  have hw := wantN_in (goodN_ok hb q) k
  unfold lofK at ho
  split at ho
  · split at ho
    · rw [List.mem_singleton.mp ho]
      dsimp only
      omega
    · cases ho
  · cases ho
theorem lof_sumK (c : Option Int) (p m : Int) (hm : 0 ≤ m) : ((lofK c p m).map (·.2)).sum ≤ m := by
  unfold lofK
  split
  · split <;> simp
    omega
  · simpa using hm
theorem lof_sumG (g : Good) (w : List Int) (j : Nat) (hw : ∀ k, 0 ≤ wantN g k) : ∀ m, ((lofG g w j m).map (·.2)).sum ≤ ((List.range m).map (wantN g)).sum
  | 0 => by simp [lofG]
  | m + 1 => by
    rw [lofG_succ, List.map_append, List.sum_append, List.range_succ, List.map_append, List.sum_append]
    have h1 := lof_sumG g w j hw m
    have h2 := lof_sumK (loafP g j m) (rowF w m) (wantN g m) (hw m)
    simp only [List.map_cons, List.map_nil, List.sum_cons, List.sum_nil]
    omega
theorem wants_days {g : Good} : ((List.range g.days.length).map (wantN g)) = g.days.map (·.want) := by
  apply List.ext_getElem?
  intro k
  rw [List.getElem?_map, List.getElem?_map]
  by_cases h : k < g.days.length
  · rw [List.getElem?_range h, List.getElem?_eq_getElem h]
    show some (wantN g k) = some _
    unfold wantN
    rw [List.getElem?_eq_getElem h]
  · rw [List.getElem?_eq_none (by rw [List.length_range]; omega), List.getElem?_eq_none (by omega)]
    rfl
theorem lof_sumB {b : Bak} (hb : bakB (bakD b) = true) (W : List (List Int)) (j : Nat) : ∀ i, i ≤ b.goods.length → ((lofB b.goods W j b.lights.length i).map (·.2)).sum ≤ (((b.goods.take i).map fun g => g.days.map (·.want)).flatten).sum
  | 0, _ => by simp [lofB]
  | i + 1, hi => by
    obtain ⟨_, _, _, _, c7⟩ := bak_parts hb
    have hg : b.goods[i]? = some (b.goods[i]'(by omega)) := List.getElem?_eq_getElem (by omega)
    generalize b.goods[i]'(by omega) = g at hg
    obtain ⟨k1, _, _⟩ := c7 g (List.mem_of_getElem? hg)
    have eg : goodN b.goods i = g := by unfold goodN; rw [List.getD_eq_getElem?_getD, hg]; rfl
    rw [lofB_succ, List.map_append, List.sum_append, eg, List.take_add_one, hg, List.map_append, List.flatten_append, List.sum_append]
    have h1 := lof_sumB hb W j i (by omega)
    have h2 := lof_sumG g (W.getD i []) j (fun k => (wantN_in (by have := goodN_ok hb i; rwa [eg] at this) k).1) b.lights.length
    rw [← k1, wants_days] at h2
    simp only [Option.toList_some, List.map_cons, List.map_nil, List.flatten_cons, List.flatten_nil, List.append_nil]
    rw [k1] at h2
    omega
theorem core_sum {L : List Off} (h : ∀ o ∈ L, 0 < o.2) : ((coreF L).map (·.2)).sum ≤ (L.map (·.2)).sum := by
  induction L with
  | nil => exact Int.le_refl 0
  | cons o l ih =>
    have h1 := h o List.mem_cons_self
    have h2 := ih fun z hz => h z (List.mem_cons_of_mem _ hz)
    unfold coreF at *
    rw [List.filter_cons]
    split
    · rw [List.map_cons, List.map_cons, List.sum_cons, List.sum_cons]
      omega
    · rw [List.map_cons, List.sum_cons]
      omega
theorem perm_sum2 {L M : List Off} (h : L.Perm M) : (L.map (·.2)).sum = (M.map (·.2)).sum := by
  induction h with
  | nil => rfl
  | cons x _ ih => rw [List.map_cons, List.map_cons, List.sum_cons, List.sum_cons, ih]
  | swap x y l => simp only [List.map_cons, List.sum_cons]; omega
  | trans _ _ h1 h2 => exact h1.trans h2
theorem gain_eq {b : Bak} (hb : bakB (bakD b) = true) (W : List (List Int)) (j : Nat) : gainV b W j = lgainV b W j := by
  unfold gainV lgainV
  refine fill_same (core_off _ _ _ _ _) (sortO_perm _) (sortO_perm _) (sortO_desc _) (sortO_desc _) (fun o ho => ?_) (fun o ho => (lof_in hb o ho).1) ?_
  · have := off_in hb o ho
    exact ⟨this.1, this.2.1⟩
  · have hr := room_nonneg hb
    unfold roomB at hr ⊢
    cases e : b.bound with
    | some z =>
      rw [e] at hr
      exact .inl ⟨rfl, hr⟩
    | none =>
      rw [e] at hr
      refine .inr ⟨rfl, ?_, hr⟩
      have h1 := core_sum (L := sortO (lofB b.goods W j b.lights.length b.goods.length)) fun o ho => (lof_in hb o ((sortO_perm _).mem_iff.mp ho)).1
      rw [perm_sum2 (sortO_perm _)] at h1
      have h2 := lof_sumB hb W j b.goods.length (Nat.le_refl _)
      rw [List.take_of_length_le (Nat.le_refl _)] at h2
      dsimp only at hr ⊢
      unfold allWanted at hr ⊢
      omega
def Lg50 (v0 v1 v2 : V) (D : Addr) (H : Hp) (L : List Off) (σ : L2.St) (H' : Hp) : Prop := ∃ (y4 y5 y6 y7 y8 : Option V), σ = [some v0, some v1, some v2, some (.ref D), y4, y5, y6, y7, y8, none, none, none, none] ∧ Same H H' ∧ OffL H' D L
def Lh50 (v0 v1 v2 v4 v5 : V) (D : Addr) (H : Hp) (L : List Off) (σ : L2.St) (H' : Hp) : Prop := ∃ (y6 y7 y8 : Option V), σ = [some v0, some v1, some v2, some (.ref D), some v4, some v5, y6, y7, y8, none, none, none, none] ∧ Same H H' ∧ OffL H' D L
def Li50 (v0 v1 v2 v3 : V) (y4 y5 y6 y7 y8 : Option V) (Z : List Off) (z : Int) (H : Hp) (i : Nat) (σ : L2.St) (H' : Hp) : Prop := ∃ (t : Int) (r : Option Int) (y11 y12 : Option V), σ = [some v0, some v1, some v2, some v3, y4, y5, y6, y7, y8, some (.int t), some (optV r), y11, y12] ∧ Same H H' ∧ t + lfill r (Z.drop i) = z
abbrev s_gain_l : Stmt := top 60
theorem sc_gain_l : FnScope ["_law_bakery", "_law_prices", "_law_day_here", "_law_gains", "_law_good", "_law_worths", "_law_given", "_law_row", "_law_one", "_law_room", "_law_total", "_law_margin", "_law_many", "_law_taken"] ["_law_bakery", "_law_prices", "_law_day_here"] (defScope s_gain_l) := ⟨rfl, rfl, rfl, by decide +kernel, rfl, by decide +kernel, by decide +kernel⟩
theorem core_aofK (c : Option Int) (p m : Int) : coreF (aofK c p m) = coreF (lofK c p m) := by
  unfold aofK lofK
  cases c with
  | none => rfl
  | some c =>
    dsimp only
    by_cases h2 : 0 < m
    · rw [if_pos h2]
    · rw [if_neg h2]
      unfold coreF
      simp [h2]
theorem core_aof (gs : List Good) (W : List (List Int)) (j n i : Nat) : coreF (aofB gs W j n i) = coreF (lofB gs W j n i) :=
  flat_with coreF core_app rfl (fun q => flat_with coreF core_app rfl (fun k => core_aofK _ _ _) n) i
theorem aofK_len (c : Option Int) (p m : Int) : (aofK c p m).length ≤ 1 := by
  unfold aofK
  split <;> simp
theorem aofG_len (g : Good) (w : List Int) (j m : Nat) : (aofG g w j m).length ≤ m := by
  have := flat_most (f := fun k => aofK (loafP g j k) (rowF w k) (wantN g k)) (fun k => aofK_len _ _ _) m
  rwa [Nat.mul_one] at this
theorem aofB_len (gs : List Good) (W : List (List Int)) (j n i : Nat) : (aofB gs W j n i).length ≤ i * n := flat_most (fun q => aofG_len _ _ _ _) i
theorem aof_in {b : Bak} (hb : bakB (bakD b) = true) {W : List (List Int)} {j n i : Nat} : ∀ o ∈ aofB b.goods W j n i, 0 ≤ o.2 ∧ o.2 ≤ 1000000000 := fun o ho => by
  obtain ⟨q, _, ho⟩ := List.mem_flatMap.mp ho
  obtain ⟨k, _, ho⟩ := List.mem_flatMap.mp ho
  have hw := wantN_in (goodN_ok hb q) k
  unfold aofK at ho
  split at ho
  · rw [List.mem_singleton.mp ho]
    exact hw
  · cases ho
/-- the law's way: every offer takes its part of the room -/
def afill : Int → List Off → Int
  | _, [] => 0
  | r, o :: l => max 0 o.1 * min o.2 r + afill (r - min o.2 r) l
theorem afill_low : ∀ {L : List Off} {r : Int}, (∀ o ∈ L, o.1 ≤ 0) → afill r L = 0
  | [], _, _ => rfl
  | o :: l, r, h => by
    have h1 := h o List.mem_cons_self
    show max 0 o.1 * min o.2 r + afill (r - min o.2 r) l = 0
    rw [afill_low fun z hz => h z (List.mem_cons_of_mem _ hz), show max 0 o.1 = 0 by omega, Int.zero_mul]
    rfl
theorem afill_core : ∀ {L : List Off} {r : Int}, 0 ≤ r → DescO L → (∀ o ∈ L, 0 ≤ o.2) → afill r L = pfill r (coreF L)
  | [], _, _, _, _ => rfl
  | o :: l, r, hr, hd, h => by
    have h1 := h o List.mem_cons_self
    have hl : ∀ o ∈ l, 0 ≤ o.2 := fun z hz => h z (List.mem_cons_of_mem _ hz)
    have hpl := List.pairwise_cons.mp hd
    show max 0 o.1 * min o.2 r + afill (r - min o.2 r) l = _
    by_cases hm : 0 < o.1
    · by_cases hw : 0 < o.2
      · unfold coreF
        rw [List.filter_cons_of_pos (by simp [hm, hw]), pfill_cons, afill_core (by omega) hpl.2 hl, show max 0 o.1 = o.1 by omega]
        rfl
      · unfold coreF
        rw [List.filter_cons_of_neg (by simp [hw]), show min o.2 r = 0 by omega, Int.mul_zero, Int.zero_add, Int.sub_zero]
        exact afill_core hr hpl.2 hl
    · have low : ∀ z ∈ o :: l, z.1 ≤ 0 := fun z hz => by
        rcases List.mem_cons.mp hz with rfl | hz
        · omega
        · have := hpl.1 z hz
          omega
      have e : coreF (o :: l) = [] := by
        unfold coreF
        rw [List.filter_eq_nil_iff]
        intro z hz
        have := low z hz
        simp
        omega
      rw [e, afill_low fun z hz => low z (List.mem_cons_of_mem _ hz), show max 0 o.1 = 0 by omega, Int.zero_mul]
      rfl
theorem core_sum0 {L : List Off} (h : ∀ o ∈ L, 0 ≤ o.2) : ((coreF L).map (·.2)).sum ≤ (L.map (·.2)).sum := by
  induction L with
  | nil => exact Int.le_refl 0
  | cons o l ih =>
    have h1 := h o List.mem_cons_self
    have h2 := ih fun z hz => h z (List.mem_cons_of_mem _ hz)
    unfold coreF at *
    rw [List.filter_cons]
    split
    · rw [List.map_cons, List.map_cons, List.sum_cons, List.sum_cons]
      omega
    · rw [List.map_cons, List.sum_cons]
      omega
/-- the room of a day, as the law tells it -/
def lawRoom (b : Bak) (L : List Off) : Int := match b.bound with
  | some k => k
  | none => (L.map (·.2)).sum
theorem lawRoom_pos {b : Bak} (hb : bakB (bakD b) = true) {W : List (List Int)} {j n i : Nat} : 0 ≤ lawRoom b (aofB b.goods W j n i) := by
  unfold lawRoom
  have hr := room_nonneg hb
  unfold roomB at hr
  cases e : b.bound with
  | some k => rw [e] at hr; exact hr
  | none =>
    refine sum_nonneg fun x hx => ?_
    obtain ⟨o, ho, rfl⟩ := List.mem_map.mp hx
    exact (aof_in hb o ho).1
theorem afill_eq {b : Bak} (hb : bakB (bakD b) = true) (W : List (List Int)) (j : Nat) {Z : List Off} (hZ : Z.Perm (aofB b.goods W j b.lights.length b.goods.length)) (hd : DescO Z) : afill (lawRoom b (aofB b.goods W j b.lights.length b.goods.length)) Z = gainV b W j := by
  have hw : ∀ o ∈ Z, 0 ≤ o.2 := fun o ho => (aof_in hb o (hZ.mem_iff.mp ho)).1
  have ec : coreF Z = coreF (sortO (lofB b.goods W j b.lights.length b.goods.length)) := by
    refine desc_uniq ?_ (hd.filter _) ((sortO_desc _).filter _)
    have h1 : (coreF Z).Perm (coreF (aofB b.goods W j b.lights.length b.goods.length)) := hZ.filter _
    have h2 : (coreF (sortO (lofB b.goods W j b.lights.length b.goods.length))).Perm (coreF (lofB b.goods W j b.lights.length b.goods.length)) := (sortO_perm _).filter _
    rw [core_aof] at h1
    exact h1.trans h2.symm
  have hcore : ∀ o ∈ coreF Z, 0 < o.1 ∧ 0 < o.2 := fun o ho => by
    have := (List.mem_filter.mp ho).2
    simpa using this
  have hr0 : 0 ≤ lawRoom b (aofB b.goods W j b.lights.length b.goods.length) := by
    unfold lawRoom
    have hr := room_nonneg hb
    unfold roomB at hr
    cases e : b.bound with
    | some k => rw [e] at hr; exact hr
    | none =>
      refine sum_nonneg fun x hx => ?_
      obtain ⟨o, ho, rfl⟩ := List.mem_map.mp hx
      exact (aof_in hb o ho).1
  rw [afill_core hr0 hd hw, gain_eq hb]
  unfold lgainV
  rw [lfill_core (fun o ho => (lof_in hb o ((sortO_perm _).mem_iff.mp ho)).1), ← ec]
  unfold lawRoom at hr0 ⊢
  cases e : b.bound with
  | some k =>
    rw [e] at hr0
    exact (fill_some hr0 hcore).symm
  | none =>
    refine (fill_none ?_ hcore).symm
    have := core_sum0 hw
    rw [perm_sum2 hZ] at this
    exact this
def Lg54 (v0 v1 v2 : V) (D : Addr) (H : Hp) (L : List Off) (σ : L2.St) (H' : Hp) : Prop := ∃ (y4 y5 y6 y7 y8 : Option V), σ = [some v0, some v1, some v2, some (.ref D), y4, y5, y6, y7, y8, none, none, none, none, none] ∧ Same H H' ∧ OffL H' D L
def Lh54 (v0 v1 v2 v4 v5 : V) (D : Addr) (H : Hp) (L : List Off) (σ : L2.St) (H' : Hp) : Prop := ∃ (y6 y7 y8 : Option V), σ = [some v0, some v1, some v2, some (.ref D), some v4, some v5, y6, y7, y8, none, none, none, none, none] ∧ Same H H' ∧ OffL H' D L
def Li54 (v0 v1 v2 v3 : V) (y4 y5 y6 y7 y8 : Option V) (Z : List Off) (z : Int) (H : Hp) (i : Nat) (σ : L2.St) (H' : Hp) : Prop := ∃ (t r : Int) (y11 y12 y13 : Option V), σ = [some v0, some v1, some v2, some v3, y4, y5, y6, y7, y8, some (.int r), some (.int t), y11, y12, y13] ∧ Same H H' ∧ t + afill r (Z.drop i) = z ∧ 0 ≤ r
theorem ok_gain_l54 {f : Addr} {fd : FuncData} (F : Fun K "_law_gain" "_law_gain" s_gain_l f fd) (B : Bi mg) (Bs : mg "sorted" = none) (Bz : mg "zip" = none) (D_price : Def P w K mg base "_law_price" 1 ["_law_good", "_law_baked", "_law_given"] (spLPrice K)) : FnOk P w K mg base CX0 2 f fd ["_law_bakery", "_law_prices", "_law_day_here"] (spGainOn K) := by
  refine F.ok sc_gain_l (fun vs H Q E h => ?_) (fun cdv A outer s H vs Q E hr h => ?_)
  · obtain ⟨_, _, _, _, _, rfl, _⟩ := h
    rfl
  · obtain ⟨x, b, y, W, j, rfl, hx, hb, hy, ⟨hWl, hWe⟩, hj, q⟩ := h
    refine ⟨_, (pss_cons (ps_set (i := 3) sc_gain_l.nd rfl (Or.inl rfl) (pe_lst pa_nil))
 (pss_cons (ps_for PassesOwn.never rfl (pi_zip (by rfl) Bz (pa_cons (pe_ix ix_tup (pv 0) pe_int (fun _ _ => rfl)) (pa_cons (pv 1) pa_nil))) (pg_tup rfl (pgs_cons (pg_name (i := 4) sc_gain_l.nd rfl (Or.inl rfl)) (pgs_cons (pg_name (i := 5) sc_gain_l.nd rfl (Or.inl rfl)) pgs_nil))) (pss_one (ps_for PassesOwn.never rfl (pi_enum (by rfl) B.enumerate (pa_cons (pe_ix ix_tup (pv 4) pe_int (fun _ _ => rfl)) pa_nil)) (pg_tup rfl (pgs_cons (pg_name (i := 6) sc_gain_l.nd rfl (Or.inl rfl)) (pgs_cons (pg_name (i := 7) sc_gain_l.nd rfl (Or.inl rfl)) pgs_nil))) (pss_cons (ps_set (i := 8) sc_gain_l.nd rfl (Or.inl rfl) (pe_callD D_price hr (by rfl) (pa_cons (pv 4) (pa_cons (pv 2) (pa_cons (pv 6) pa_nil)))))
 (pss_one (ps_if (pt_cmpR op_notN (pv 8) pe_non (nomark _)) (pss_one (ps_expr (pe_bm PySem.F.plainAttrs_list PySem.F.slot_list_append PySem.F.type_list_append mt_append (pv 3) (pa_cons (pe_tup (pa_cons (pe_op op_sub (pe_ix ix_list (pv 5) (pv 6) (fun _ _ => rfl)) (pv 8)) (pa_cons (pe_ix ix_tup (pv 7) pe_int (fun _ _ => rfl)) pa_nil))) pa_nil)))) pss_nil))))))
 (pss_cons (ps_set (i := 9) sc_gain_l.nd rfl (Or.inl rfl) (pe_ifExp (pt_cmpR op_isN (pe_ix ix_tup (pv 0) pe_int (fun _ _ => rfl)) pe_non (nomark _)) (pe_callB (cr_sum rfl) (by rfl) B.sum (by decide +kernel) (pa_cons (pe_lc (own := [("_law_margin", 11), ("_law_many", 12)]) (g := (gTup K 2 (gCons (gName 11) (gCons (gName 12) gNil)))) rfl sc_gain_l.nd (pi_list (pv 3)) (blkOk_by (own := [("_law_margin", 11), ("_law_many", 12)]) (N := ["_law_bakery", "_law_prices", "_law_day_here", "_law_gains", "_law_good", "_law_worths", "_law_given", "_law_row", "_law_one", "_law_room", "_law_total", "_law_margin", "_law_many", "_law_taken"]) (sc := defScope s_gain_l) (by decide +kernel)) (fun _ _ _ _ _ => (pg_tup rfl (pgs_cons (pg_name (i := 11) sc_gain_l.nd rfl (Or.inl rfl)) (pgs_cons (pg_name (i := 12) sc_gain_l.nd rfl (Or.inl rfl)) pgs_nil)))) (fun _ _ _ _ _ => pts_nil) (fun _ _ _ _ _ => (pv 12))) pa_nil)) (pe_ix ix_tup (pv 0) pe_int (fun _ _ => rfl))))
 (pss_cons (ps_set (i := 10) sc_gain_l.nd rfl (Or.inl rfl) pe_int)
 (pss_cons (ps_for PassesOwn.never rfl (pi_list (pe_step (pe_callB (cr_sorTL (K := K) rfl hr.units) (by rfl) Bs (by decide +kernel) (pa_cons (pv 3) pa_nil)) po_none po_none (po_some (pe_un un_neg pe_int)))) (pg_tup rfl (pgs_cons (pg_name (i := 11) sc_gain_l.nd rfl (Or.inl rfl)) (pgs_cons (pg_name (i := 12) sc_gain_l.nd rfl (Or.inl rfl)) pgs_nil))) (pss_cons (ps_set (i := 13) sc_gain_l.nd rfl (Or.inl rfl) (pe_callB (call_mn rfl) (by rfl) B.min (by decide +kernel) (pa_cons (pv 12) (pa_cons (pv 9) pa_nil))))
 (pss_cons (ps_set (i := 9) sc_gain_l.nd rfl (Or.inl rfl) (pe_op op_sub (pv 9) (pv 13)))
 (pss_one (ps_set (i := 10) sc_gain_l.nd rfl (Or.inl rfl) (pe_op op_add (pv 10) (pe_op op_mul (pe_callB (call_mx rfl) (by rfl) B.max (by decide +kernel) (pa_cons pe_int (pa_cons (pv 11) pa_nil))) (pv 13))))))))
 (pss_one (ps_ret (pv 10)))))))), ?_⟩
    obtain ⟨⟨c1, c2⟩, c3, _, ⟨c5, c6⟩, c7⟩ := bak_parts hb
    obtain ⟨a, l, v2, ga, xl, xg, rfl, ht, hl, hla, h2, hgl, hga⟩ := Th.bak hx
    have e2 := h2.opt
    subst e2
    obtain ⟨pa, xp, rfl, hp, hpl, hpe⟩ := hy.prices
    have hxg : xg.length = b.goods.length := by rw [hga.length, List.length_map]
    walk_at "wp"
    refine ⟨Nat.zero_le _, fun D hD => ?_⟩
    have S0 := same_upd (o := .lst []) hD
    have E0 : OffL (upd H D (.lst [])) D [] := ⟨⟨[], upd_same, rfl, fun z hz => nomatch hz⟩⟩
    generalize upd H D (.lst []) = H0 at S0 E0 ⊢
    refine ⟨_, _, Same.tup S0 ht, atI_nat (j := 2) rfl, ?_⟩
    walk_at "wp"
    refine ⟨_, _, S0.seq hgl, S0.seq hp, ?_⟩
    refine LoopR.by (walk_zip (n := b.goods.length) (xs := xg) (ys := xp) (by omega)) (fun i σ H' => Lg54 (.ref a) (.ref pa) (.int (j : Int)) D H (aofB b.goods W j b.lights.length i) σ H') ⟨none, none, none, none, none, rfl, S0, E0⟩ (fun i σ H' _ hI => by obtain ⟨_, _, _, _, _, _, S, _⟩ := hI; exact ⟨S.seq hgl, S.seq hp⟩) (fun i v σ H1 H2 hi hI yy => ?_) (fun σ H1 hI => ?_)
    · obtain ⟨y4, y5, y6, y7, y8, rfl, S1, hO⟩ := hI
      have S2 := ypair_same yy
      obtain ⟨T, z1, z2, rfl, hT, rfl, e1, e2⟩ := yy
      have e1 : xg[i]? = some z1 := e1
      have e2 : xp[i]? = some z2 := e2
      have eT : upd H1 T (.tup [z1, z2]) T = some (.tup [z1, z2]) := upd_same
      generalize upd H1 T (.tup [z1, z2]) = H2 at S2 eT ⊢
      obtain ⟨gd0, hgd, hz⟩ := hga.get e1
      rw [List.getElem?_map] at hgd
      obtain ⟨g, hgg, rfl⟩ := Option.map_eq_some_iff.mp hgd
      obtain ⟨k1, k2, k3⟩ := c7 g (List.mem_of_getElem? hgg)
      obtain ⟨tg, ad, xs, rfl, htg, hsd, hda⟩ := hz.good
      have hxl : xs.length = g.days.length := by rw [hda.length, List.length_map]
      obtain ⟨aw, w, rfl, hw, hsw⟩ := hpe _ _ e2
      have hwl : w.length = b.lights.length := hWe w (List.mem_of_getElem? hw)
      have S12 := S1.trans S2
      have hO2 := hO.same S2
      have eg : goodN b.goods i = g := by unfold goodN; rw [List.getD_eq_getElem?_getD, hgg]; rfl
      have ew : W.getD i [] = w := by rw [List.getD_eq_getElem?_getD, hw]; rfl
      walk_at "wp"
      refine ⟨_, SqT.of eT, rfl, ?_⟩
      walk_at "wg"
      walk_at "wp"
      refine ⟨_, _, Same.tup S12 htg, atI_nat (j := 0) rfl, ?_⟩
      walk_at "wp"
      refine ⟨_, S12.seq hsd, ?_⟩
      refine LoopR.by (walk_enum (xs := xs)) (fun m σ H' => Lh54 (.ref a) (.ref pa) (.int (j : Int)) (.ref tg) (.ref aw) D H (aofB b.goods W j b.lights.length i ++ aofG g w j m) σ H') ⟨y6, y7, y8, rfl, S12, by rw [show aofG g w j 0 = [] from rfl, List.append_nil]; exact hO2⟩ (fun m σ H' _ hI => by obtain ⟨_, _, _, _, S, _⟩ := hI; exact S.seq hsd) (fun m v σ H3 H4 hm hI yy => ?_) (fun σ H3 hI => ?_)
      · obtain ⟨y6, y7, y8, rfl, S3, hO3⟩ := hI
        have S4 := ypair_same yy
        obtain ⟨T2, z1, z2, rfl, hT2, rfl, e3, e4⟩ := yy
        cases e3
        have e4 : xs[m]? = some z2 := e4
        have eT2 : upd H3 T2 (.tup [V.int (m : Int), z2]) T2 = some (.tup [V.int (m : Int), z2]) := upd_same
        generalize upd H3 T2 (.tup [V.int (m : Int), z2]) = H4 at S4 eT2 ⊢
        obtain ⟨dd0, hdd, hzd⟩ := hda.get e4
        rw [List.getElem?_map] at hdd
        obtain ⟨d, hd, rfl⟩ := Option.map_eq_some_iff.mp hdd
        obtain ⟨td, rfl, htd⟩ := hzd.day
        have hwm : w[m]? = some (w[m]'(by omega)) := List.getElem?_eq_getElem (by omega)
        generalize w[m]'(by omega) = pr at hwm
        have ewn : wantN g m = d.want := by unfold wantN; rw [hd]
        have erw : rowF w m = pr := by unfold rowF; rw [List.getD_eq_getElem?_getD, hwm]; rfl
        walk_at "wp"
        refine ⟨_, SqT.of eT2, rfl, ?_⟩
        walk_at "wg"
        walk_at "wp"
        refine ⟨_, g, j, m, rfl, hz.same (S3.trans S4), by omega, by omega, fun H5 S5 => ?_⟩
        have S35 := S3.trans (S4.trans S5)
        have hO5 := hO3.same (S4.trans S5)
        have eq0 := aofG_succ g w j m
        rw [ewn, erw] at eq0
        cases hc : loafP g j m with
        | none =>
          rw [hc, show aofK none pr d.want = [] from rfl, List.append_nil] at eq0
          rw [show optV (none : Option Int) = V.non from rfl]
          walk_at "wp"
          refine ⟨_, _, _, rfl, S35, ?_⟩
          rw [eq0]
          exact hO5
        | some c =>
          rw [hc] at eq0
          rw [show optV (some c) = V.int c from rfl]
          walk_at "wp"
          rw [show aofK (some c) pr d.want = [(pr - c, d.want)] from rfl] at eq0
          obtain ⟨ps0, eps, _, _⟩ := hO5.ex
          refine ⟨tyL (SqL.of eps), _, _, S35.seq hsw, atI_nat (j := m) (by rw [List.getElem?_map, hwm]; rfl), ?_⟩
          walk_at "wp"
          refine ⟨_, _, Same.tup S35 htd, atI_nat (j := 0) rfl, sz100 (by decide), fun p6 hp6 => ?_⟩
          obtain ⟨xs6, ex6, hx6, hO6⟩ := hO5.snoc hp6 (pr - c, d.want)
          have hl1 := aofB_len b.goods W j b.lights.length i
          have hl2 := aofG_len g w j m
          have hin : i * b.lights.length ≤ 2 * 40 := Nat.mul_le_mul (by omega) c2
          refine ⟨xs6, ex6, sz100l (by rw [hx6, List.length_append]; omega), _, _, _, rfl, same_mut (S35.trans (same_upd hp6)) hD, ?_⟩
          rw [eq0, ← List.append_assoc]
          exact hO6
      · obtain ⟨y6, y7, y8, rfl, S3, hO3⟩ := hI
        rw [hxl, k1] at hO3
        refine ⟨_, _, _, _, _, rfl, S3, ?_⟩
        rw [aofB_succ, eg, ew]
        exact hO3
    · obtain ⟨y4, y5, y6, y7, y8, rfl, S1, hO⟩ := hI
      dsimp only
      obtain ⟨ps, eD, eps, hps⟩ := hO.ex
      refine seq1 (fun σ' H' => σ' = [some (.ref a), some (.ref pa), some (.int (j : Int)), some (.ref D), y4, y5, y6, y7, y8, some (.int (lawRoom b (aofB b.goods W j b.lights.length b.goods.length))), none, none, none, none] ∧ Same H H' ∧ OffL H' D (aofB b.goods W j b.lights.length b.goods.length)) (fun σ5 H5 hm => ?_) (fun N hN => ?_)
      rotate_left
      · walk_at "wp"
        refine ⟨_, _, Same.tup S1 ht, atI_nat (j := 1) rfl, ?_⟩
        cases hbd : b.bound with
        | some k =>
          rw [show optV (some k) = V.int k from rfl, if_neg (by rw [decide_eq_true_eq]; intro z; cases z)]
          refine ⟨_, _, Same.tup S1 ht, atI_nat (j := 1) rfl, ?_⟩
          rw [hbd]
          have e : lawRoom b (aofB b.goods W j b.lights.length b.goods.length) = k := by unfold lawRoom; rw [hbd]
          rw [e] at hN
          exact hN _ _ ⟨rfl, S1, hO⟩
        | none =>
          rw [show optV (none : Option Int) = V.non from rfl, if_pos (decide_eq_true rfl)]
          refine ⟨⟨_, SqL.of eD⟩, fun D2 hD2 => ?_⟩
          refine LcR.map (walk_list (xs := ps.map fun z => V.ref z.1)) ((ps.map fun z => z.2.2).map V.int) hD2 (by rw [List.length_map, List.length_map, List.length_map]) ?_ (fun H s => s.seq (SqL.of eD)) (fun _ _ _ _ y => yat_same y) (fun i x y H3 H4 hi s3 yy hy R0 hR0 => ?_) (fun H3 s3 hH3 => ?_)
          · have hl := congrArg List.length eps
            have hl1 := aofB_len b.goods W j b.lights.length b.goods.length
            have hin : b.goods.length * b.lights.length ≤ 2 * 40 := Nat.mul_le_mul c6 c2
            rw [List.length_map] at hl ⊢
            omega
          · obtain ⟨rfl, hxi⟩ := yy
            rw [List.length_map] at hi
            have hzi : ps[i]? = some ps[i] := List.getElem?_eq_getElem hi
            have hzm := List.getElem_mem hi
            rw [List.getElem?_map, hzi] at hxi
            rw [List.getElem?_map, List.getElem?_map, hzi] at hy
            cases hxi
            cases hy
            walk_at "wp"
            refine ⟨_, SqT.of (s3 _ _ (hps _ hzm)), rfl, ?_⟩
            walk_at "wg"
            walk_at "wp"
            exact hR0 _ (Same.refl _)
          · refine ⟨_, SqL.of hH3, ?_⟩
            have e : lawRoom b (aofB b.goods W j b.lights.length b.goods.length) = (ps.map fun z => z.2.2).sum := by
              unfold lawRoom
              rw [hbd, ← eps, List.map_map]
              rfl
            rw [e] at hN
            exact hN _ _ ⟨rfl, S1.trans s3, hO.same s3⟩
      obtain ⟨rfl, S1, hO⟩ := hm
      obtain ⟨ps, eD, eps, hps⟩ := hO.ex
      walk_at "wp"
      refine ⟨ps.map fun z => (z.1, [z.2.1, z.2.2]), ?_, fun q hq => ?_, fun q hq => ?_, fun L' pl hperm hsrt hpl => ?_⟩
      · rw [List.map_map]
        exact SqL.of eD
      · obtain ⟨z, hz, rfl⟩ := List.mem_map.mp hq
        exact hps z hz
      · obtain ⟨z, hz, rfl⟩ := List.mem_map.mp hq
        exact List.cons_ne_nil _ _
      obtain ⟨zs', hzp, rfl⟩ := perm_map_inv hperm.symm ps rfl
      rw [List.map_map, show List.map ((fun q : Addr × List Int => V.ref q.1) ∘ fun z : Addr × Off => (z.1, [z.2.1, z.2.2])) zs' = zs'.map fun z => V.ref z.1 from rfl]
      have U2 := same_upd (o := .lst (zs'.map fun z => V.ref z.1)) hpl
      have EL : upd H5 pl (.lst (zs'.map fun z => V.ref z.1)) pl = some (.lst (zs'.map fun z => V.ref z.1)) := upd_same
      generalize upd H5 pl (.lst (zs'.map fun z => V.ref z.1)) = H2 at U2 EL ⊢
      refine ⟨_, _, rfl, SqL.of EL, by decide, fun pr hpr => ?_⟩
      rw [stepV_rev]
      have U3 := same_upd (o := .lst (zs'.map fun z => V.ref z.1).reverse) hpr
      have EL3 : upd H2 pr (.lst (zs'.map fun z => V.ref z.1).reverse) pr = some (.lst (zs'.reverse.map fun z => V.ref z.1)) := by rw [List.map_reverse]; exact upd_same
      generalize upd H2 pr (.lst (zs'.map fun z => V.ref z.1).reverse) = H3 at U3 EL3 ⊢
      have hd : DescO (zs'.reverse.map (·.2)) := by
        unfold DescO
        rw [List.pairwise_map] at hsrt ⊢
        rw [List.pairwise_reverse]
        refine hsrt.imp fun h => ?_
        have := pair_le h
        omega
      have hzr : zs'.reverse.Perm ps := (List.reverse_perm _).trans hzp.symm
      have eZp : (zs'.reverse.map (·.2)).Perm (aofB b.goods W j b.lights.length b.goods.length) := by rw [← eps]; exact hzr.map _
      have eZ := afill_eq hb W j eZp hd
      have hro : 0 ≤ lawRoom b (aofB b.goods W j b.lights.length b.goods.length) := lawRoom_pos hb
      have U23 := U2.trans U3
      have htup : ∀ z ∈ zs'.reverse, H3 z.1 = some (tupO z.2) := fun z hz => U23 _ _ (hps z (hzr.mem_iff.mp hz))
      generalize zs'.reverse = zz at EL3 eZ htup hzr hd eZp
      refine ⟨⟨_, SqL.of EL3⟩, ?_⟩
      refine LoopR.by (walk_list (xs := zz.map fun z => V.ref z.1)) (Li54 (.ref a) (.ref pa) (.int (j : Int)) (.ref D) y4 y5 y6 y7 y8 (zz.map (·.2)) (gainV b W j) H3) ⟨_, _, _, _, _, rfl, Same.refl _, by rw [List.drop_zero, Int.zero_add]; exact eZ, hro⟩ (fun i σ H' _ hI => by obtain ⟨_, _, _, _, _, _, S, _⟩ := hI; exact S.seq (SqL.of EL3)) (fun i v σ H4 H5 hi hI yy => ?_) (fun σ H4 hI => ?_)
      · obtain ⟨rfl, hxi⟩ := yy
        obtain ⟨t, r, y11, y12, y13, rfl, S4, eq, hr0⟩ := hI
        rw [List.length_map] at hi
        have hzi : zz[i]? = some zz[i] := List.getElem?_eq_getElem hi
        have hzm := List.getElem_mem hi
        rw [List.getElem?_map, hzi] at hxi
        cases hxi
        have hdr : (zz.map (·.2)).drop i = zz[i].2 :: (zz.map (·.2)).drop (i + 1) := by
          rw [List.drop_eq_getElem_cons (by rw [List.length_map]; exact hi), List.getElem_map]
        rw [hdr] at eq
        generalize zz[i] = z at hzi hzm eq
        have e1 := S4 _ _ (htup z hzm)
        have hin := aof_in hb (W := W) (j := j) (n := b.lights.length) (i := b.goods.length) z.2 (by rw [← eps]; exact List.mem_map_of_mem (hzr.mem_iff.mp hzm))
        have eq : t + (max 0 z.2.1 * min z.2.2 r + afill (r - min z.2.2 r) ((zz.map (·.2)).drop (i + 1))) = gainV b W j := eq
        walk_at "wp"
        refine ⟨_, SqT.of e1, rfl, ?_⟩
        walk_at "wg"
        walk_at "wp"
        have em : (if r < z.2.2 then r else z.2.2) = min z.2.2 r := by split <;> omega
        have ex : (if z.2.1 > 0 then z.2.1 else 0) = max 0 z.2.1 := by split <;> omega
        have hm1 : 0 ≤ min z.2.2 r ∧ min z.2.2 r ≤ 1000000000 := by omega
        have hm2 : 0 ≤ r - min z.2.2 r := by omega
        rw [em, ex]
        generalize min z.2.2 r = mm at eq hm1 hm2 ⊢
        refine ⟨.inr ⟨by omega, by omega⟩, _, _, _, _, _, rfl, S4, ?_, hm2⟩
        rw [← eq, Int.add_assoc]
      · obtain ⟨t, r, y11, y12, y13, rfl, S4, eq, hr0⟩ := hI
        rw [List.length_map, List.drop_of_length_le (by rw [List.length_map]; exact Nat.le_refl _)] at eq
        have et : t = gainV b W j := by
          rw [← eq]
          exact (Int.add_zero t).symm
        walk_at "wp"
        rw [et]
        exact q _ (S1.trans (U23.trans S4))
end
end Bk

namespace Bk
open PySem PySem.Spec PyProof.Rows L2
local macro_rules | `(tactic| walk_at "wp") => `(tactic| try simp only [rGtT_r, tRaise1f, rSorTL_r, rSorTR_r, tCKw, tLc2_eq, rIntS_r, rLenS_r, rIxS_r, rInS_r, rSplit_r, iStr_eq, rNewStrs, iRng3_eq, rRng3_i, tM1, tFmt, iLT, tAugS, tScT2, rSetL_r, rSetOf2_r, rSorDT_r, rSetD, tDGet2, tDGet, tDNewT, rExtend_r, rSortU_r, rSetOf_r, rSortedSet_r, rNinr_r, rNeN_r, rCatL_r, rSlT_r, rListOf_r, rIsB_b, rNotB_b, tFmtO, tJs, tOst, tCallS, WE, tRaise2, rOne_i, rSorD_r, tDNewK, Int.zero_add, tNever, tFor_eq, tLc_eq, iList, iTup, iRng1_eq, rRng1_i, iRng2_eq, rRng2_i, iEnum_eq, rEnum_r, iZip_eq, rZip_r, tSl, tPart, tNoPart, rSlL_r, rCat_r, rIn_r, rNin_r, rRepr_r, iRevR, rMin_r, rShr_i, rOdd_i, rSetL_r, gSub, rRg1_i, rRg2_i, rInr_r, tAug, ipI_ii, tLstRg, tRg1, tRg2, gTup_r, gUnl_r, rInt1_b, rInt1_i, rRep_r, tStep_r, scal, tSeq, tNext, tAsg, tRet, tRetN, tIfS, tDrop, tCB, tCons, tNil, tVar, tOp, tUn, tC, rU_i, rI_ii, rI0_ii, rEq, rNe, tTest, tB, tAnd, tOr, tNot, tAndV, tOrV, tNotV, tIf, tChain, tLst, tTup, tBM, tBM0, rAppend_r, rIxL_r, rIxT_r, rMx_ii, rMn_ii, rLnL_r, rLnT_r, rIsD_int, rIsD_bool, rIsD_list, rIsD_tuple, tCall, gName, gNil_n, gCons_c, cxK, L2.start, List.map, List.replicate, List.length_cons, List.length_nil, List.cons_append, List.nil_append, List.append_nil, List.getElem?_cons_zero, List.getElem?_cons_succ, Option.some.injEq, exists_eq_left', exists_eq_left, V.int.injEq, V.bl.injEq, V.str.injEq, V.ref.injEq, List.cons.injEq, and_true, true_and, and_self, List.set, wipe, rAll_r, rSum_r, reduceCtorEq, decide_true, decide_false, reduceIte, ite_true, ite_false, if_true, if_false, Bool.false_eq_true, Bool.not_true, Bool.not_false])
local macro_rules | `(tactic| walk_at "shaped") => `(tactic| (simp only [rGtT_r, SeqAt.shaped, PyData.canLay0, PyData.canLayAll0, PyData.depth, PyData.depthAll]; rfl))
local macro_rules | `(tactic| walk_at "lay") => `(tactic| (simp only [rGtT_r, PyData.canLay0, PyData.canLayAll0]; rfl))
local macro_rules | `(tactic| walk_at "wg") => `(tactic| try simp only [gName, gTup_r, gCons_c, gNil_n, cxK, List.set, List.cons.injEq, and_true, true_and, exists_eq_left', exists_eq_left, List.length_cons, List.length_nil])
section
variable {P : Program} {w : World} {K : PySem.W.Frag} {mg : Str → Option Value} {base : Heap}
abbrev s_bottom_l : Stmt := top 61
theorem sc_bottom_l : FnScope ["_law_bakery", "_law_prices", "_law_lit", "_law_dark", "_law_total", "_law_good", "_law_worths", "_law_given", "_law_row", "_law_day_here", "_law_light", "_law_more"] ["_law_bakery", "_law_prices", "_law_lit", "_law_dark"] (defScope s_bottom_l) := ⟨rfl, rfl, rfl, by decide +kernel, rfl, by decide +kernel, by decide +kernel⟩
def Lm54 (v0 v1 v2 v3 : V) (z : Int) (H : Hp) (σ : L2.St) (H' : Hp) : Prop := ∃ (y5 y6 y7 y8 : Option V), σ = [some v0, some v1, some v2, some v3, some (.int z), y5, y6, y7, y8, none, none, none] ∧ Same H H'
def Ln54 (v0 v1 v2 v3 : V) (y5 y6 y7 y8 : Option V) (b : Bak) (W : List (List Int)) (lit dark : List Int) (H : Hp) (i : Nat) (σ : L2.St) (H' : Hp) : Prop := ∃ (y9 y10 y11 : Option V), σ = [some v0, some v1, some v2, some v3, some (.int (botS b W lit dark i)), y5, y6, y7, y8, y9, y10, y11] ∧ Same H H'
theorem ok_bottom_l54 {f : Addr} {fd : FuncData} (F : Fun K "_law_bottom" "_law_bottom" s_bottom_l f fd) (B : Bi mg) (Bz : mg "zip" = none) (D_gain_l : Def P w K mg base "_law_gain" 2 ["_law_bakery", "_law_prices", "_law_day_here"] (spGainOn K)) : FnOk P w K mg base CX0 3 f fd ["_law_bakery", "_law_prices", "_law_lit", "_law_dark"] (spBottom K) := by
  refine F.ok sc_bottom_l (fun vs H Q E h => ?_) (fun cdv A outer s H vs Q E hr h => ?_)
  · obtain ⟨_, _, _, _, _, _, _, _, rfl, _⟩ := h
    rfl
  · obtain ⟨x, b, y, W, p, q, lit, dark, rfl, hx, hb, hy, hW, hp, hq, qq⟩ := h
    refine ⟨_, (pss_cons (ps_set (i := 4) sc_bottom_l.nd rfl (Or.inl rfl) pe_int)
 (pss_cons (ps_for PassesOwn.never rfl (pi_zip (by rfl) Bz (pa_cons (pe_ix ix_tup (pv 0) pe_int (fun _ _ => rfl)) (pa_cons (pv 1) pa_nil))) (pg_tup rfl (pgs_cons (pg_name (i := 5) sc_bottom_l.nd rfl (Or.inl rfl)) (pgs_cons (pg_name (i := 6) sc_bottom_l.nd rfl (Or.inl rfl)) pgs_nil))) (pss_one (ps_for PassesOwn.never rfl (pi_enum (by rfl) B.enumerate (pa_cons (pe_ix ix_tup (pv 5) pe_int (fun _ _ => rfl)) pa_nil)) (pg_tup rfl (pgs_cons (pg_name (i := 7) sc_bottom_l.nd rfl (Or.inl rfl)) (pgs_cons (pg_name (i := 8) sc_bottom_l.nd rfl (Or.inl rfl)) pgs_nil))) (pss_one (ps_set (i := 4) sc_bottom_l.nd rfl (Or.inl rfl) (pe_op op_add (pv 4) (pe_op op_mul (pe_ix ix_tup (pv 8) pe_int (fun _ _ => rfl)) (pe_ix ix_list (pv 6) (pv 7) (fun _ _ => rfl)))))))))
 (pss_cons (ps_for PassesOwn.never rfl (pi_enum (by rfl) B.enumerate (pa_cons (pe_ix ix_tup (pv 0) pe_int (fun _ _ => rfl)) pa_nil)) (pg_tup rfl (pgs_cons (pg_name (i := 9) sc_bottom_l.nd rfl (Or.inl rfl)) (pgs_cons (pg_name (i := 10) sc_bottom_l.nd rfl (Or.inl rfl)) pgs_nil))) (pss_cons (ps_set (i := 11) sc_bottom_l.nd rfl (Or.inl rfl) (pe_op op_sub (pv 10) (pe_callD D_gain_l hr (by rfl) (pa_cons (pv 0) (pa_cons (pv 1) (pa_cons (pv 9) pa_nil))))))
 (pss_one (ps_if (pt_cmpR op_in_seq (pv 9) (pv 2) (by rfl)) (pss_one (ps_set (i := 4) sc_bottom_l.nd rfl (Or.inl rfl) (pe_op op_add (pv 4) (pv 11)))) (pss_one (ps_if (pt_cmpR op_notIn_seq (pv 9) (pv 3) (by rfl)) (pss_one (ps_set (i := 4) sc_bottom_l.nd rfl (Or.inl rfl) (pe_op op_add (pv 4) (pe_callB (call_mn rfl) (by rfl) B.min (by decide +kernel) (pa_cons pe_int (pa_cons (pv 11) pa_nil)))))) pss_nil))))))
 (pss_one (ps_ret (pv 4)))))), ?_⟩
    obtain ⟨hWl, hWe⟩ := hW
    obtain ⟨⟨c1, c2⟩, c3, _, ⟨c5, c6⟩, c7⟩ := bak_parts hb
    obtain ⟨a, l, v2, ga, xl, xg, rfl, ht, hl, hla, h2, hgl, hga⟩ := Th.bak hx
    have e := hla.intsV
    subst e
    have hy0 := hy
    obtain ⟨pa, xp, rfl, hpp, hpl, hpe⟩ := hy.prices
    have hxg : xg.length = b.goods.length := by rw [hga.length, List.length_map]
    walk_at "wp"
    refine ⟨_, _, ht, atI_nat (j := 2) rfl, ?_⟩
    walk_at "wp"
    refine ⟨_, _, hgl, hpp, ?_⟩
    refine LoopR.by (walk_zip (n := b.goods.length) (xs := xg) (ys := xp) (by omega)) (fun i σ H' => Lm54 (.ref a) (.ref pa) (.ref p) (.ref q) (worthB b.goods W b.lights.length i) H σ H') ⟨none, none, none, none, rfl, Same.refl _⟩ (fun i σ H' _ hI => by obtain ⟨_, _, _, _, _, S⟩ := hI; exact ⟨S.seq hgl, S.seq hpp⟩) (fun i v σ H1 H2 hi hI yy => ?_) (fun σ H1 hI => ?_)
    · obtain ⟨y5, y6, y7, y8, rfl, S1⟩ := hI
      have S2 := ypair_same yy
      obtain ⟨T, z1, z2, rfl, hT, rfl, e1, e2⟩ := yy
      have e1 : xg[i]? = some z1 := e1
      have e2 : xp[i]? = some z2 := e2
      have eT : upd H1 T (.tup [z1, z2]) T = some (.tup [z1, z2]) := upd_same
      generalize upd H1 T (.tup [z1, z2]) = H2 at S2 eT ⊢
      obtain ⟨gd0, hgd, hz⟩ := hga.get e1
      rw [List.getElem?_map] at hgd
      obtain ⟨g, hgg, rfl⟩ := Option.map_eq_some_iff.mp hgd
      obtain ⟨k1, k2, k3⟩ := c7 g (List.mem_of_getElem? hgg)
      obtain ⟨tg, ad, xs, rfl, htg, hsd, hda⟩ := hz.good
      have hxl : xs.length = g.days.length := by rw [hda.length, List.length_map]
      obtain ⟨aw, w, rfl, hw, hsw⟩ := hpe _ _ e2
      have hwl : w.length = b.lights.length := hWe w (List.mem_of_getElem? hw)
      have S12 := S1.trans S2
      have eg : goodN b.goods i = g := by unfold goodN; rw [List.getD_eq_getElem?_getD, hgg]; rfl
      have ew : W.getD i [] = w := by rw [List.getD_eq_getElem?_getD, hw]; rfl
      walk_at "wp"
      refine ⟨_, SqT.of eT, rfl, ?_⟩
      walk_at "wg"
      walk_at "wp"
      refine ⟨_, _, Same.tup S12 htg, atI_nat (j := 0) rfl, ?_⟩
      walk_at "wp"
      refine ⟨_, S12.seq hsd, ?_⟩
      refine LoopR.by (walk_enum (xs := xs)) (fun m σ H' => ∃ (y7 y8 : Option V), σ = [some (.ref a), some (.ref pa), some (.ref p), some (.ref q), some (.int (worthB b.goods W b.lights.length i + worthG g w m)), some (.ref tg), some (.ref aw), y7, y8, none, none, none] ∧ Same H H') ⟨y7, y8, by rw [show worthG g w 0 = 0 from rfl, Int.add_zero], S12⟩ (fun m σ H' _ hI => by obtain ⟨_, _, _, S⟩ := hI; exact S.seq hsd) (fun m v σ H3 H4 hm hI yy => ?_) (fun σ H3 hI => ?_)
      · obtain ⟨y7, y8, rfl, S3⟩ := hI
        have S4 := S3.trans (ypair_same yy)
        obtain ⟨T2, z1, z2, rfl, hT2, rfl, e3, e4⟩ := yy
        cases e3
        have e4 : xs[m]? = some z2 := e4
        have eT2 : upd H3 T2 (.tup [V.int (m : Int), z2]) T2 = some (.tup [V.int (m : Int), z2]) := upd_same
        generalize upd H3 T2 (.tup [V.int (m : Int), z2]) = H4 at S4 eT2 ⊢
        obtain ⟨dd0, hdd, hzd⟩ := hda.get e4
        rw [List.getElem?_map] at hdd
        obtain ⟨d, hd, rfl⟩ := Option.map_eq_some_iff.mp hdd
        obtain ⟨td, rfl, htd⟩ := hzd.day
        have hwm : w[m]? = some (w[m]'(by omega)) := List.getElem?_eq_getElem (by omega)
        generalize w[m]'(by omega) = pr at hwm
        have ewn : wantN g m = d.want := by unfold wantN; rw [hd]
        have erw : rowF w m = pr := by unfold rowF; rw [List.getD_eq_getElem?_getD, hwm]; rfl
        have hwin := (nums_of_day (k3 d (List.mem_of_getElem? hd))).1
        walk_at "wp"
        refine ⟨_, SqT.of eT2, rfl, ?_⟩
        walk_at "wg"
        walk_at "wp"
        refine ⟨_, _, Same.tup S4 htd, atI_nat (j := 0) rfl, _, _, S4.seq hsw, atI_nat (j := m) (by rw [List.getElem?_map, hwm]; rfl), ?_⟩
        walk_at "wp"
        refine ⟨.inl ⟨by omega, by omega⟩, _, _, ⟨?_, rfl, rfl⟩, S4⟩
        rw [worthG_succ, ewn, erw, Int.add_assoc]
      · obtain ⟨y7, y8, rfl, S3⟩ := hI
        rw [hxl, k1]
        refine ⟨some (.ref tg), some (.ref aw), y7, y8, ?_, S3⟩
        rw [worthB_succ, eg, ew]
    · obtain ⟨y5, y6, y7, y8, rfl, S1⟩ := hI
      walk_at "wp"
      refine ⟨_, _, Same.tup S1 ht, atI_nat (j := 0) rfl, ?_⟩
      walk_at "wp"
      refine ⟨_, S1.seq hl, LoopR.by walk_enum (Ln54 (.ref a) (.ref pa) (.ref p) (.ref q) y5 y6 y7 y8 b W lit dark H1) ⟨none, none, none, rfl, Same.refl _⟩ (fun i σ H' _ hI => by obtain ⟨_, _, _, _, S⟩ := hI; exact (S1.trans S).seq hl) (fun i v σ H3 H4 hi hI yy => ?_) (fun σ H3 hI => ?_)⟩
      · obtain ⟨y9, y10, y11, rfl, S3⟩ := hI
        have S4 := ypair_same yy
        obtain ⟨T, z1, z2, rfl, hT, rfl, e1, e2⟩ := yy
        cases e1
        have e2 : (b.lights.map V.int)[i]? = some z2 := e2
        have eT : upd H3 T (.tup [V.int (i : Int), z2]) T = some (.tup [V.int (i : Int), z2]) := upd_same
        generalize upd H3 T (.tup [V.int (i : Int), z2]) = H4 at S4 eT ⊢
        rw [List.length_map] at hi
        rw [List.getElem?_map] at e2
        obtain ⟨light, hli, rfl⟩ := Option.map_eq_some_iff.mp e2
        have elr : rowF b.lights i = light := by unfold rowF; rw [List.getD_eq_getElem?_getD, hli]; rfl
        have S34 := S3.trans S4
        have SH := S1.trans S34
        have fl : ∀ ms : List Int, (ms.map V.int).all flatV = true := fun ms => by
          rw [List.all_eq_true]
          intro z hz
          obtain ⟨_, _, rfl⟩ := List.mem_map.mp hz
          rfl
        have estep : botS b W lit dark (i + 1) = botS b W lit dark i + botT b W lit dark i := rfl
        walk_at "wp"
        refine ⟨_, SqT.of eT, rfl, ?_⟩
        walk_at "wg"
        walk_at "wp"
        refine ⟨_, b, _, W, i, rfl, hx.same SH, hb, hy0.same SH, ⟨hWl, hWe⟩, by omega, fun H5 S5 => ?_⟩
        have S35 := S34.trans S5
        have SH5 := SH.trans S5
        walk_at "wp"
        refine ⟨_, .inl (SH5.seq hp), rfl, fl _, ?_⟩
        rw [inV_ints]
        have fin : ∀ v : Int, botS b W lit dark (i + 1) = v → Ln54 (.ref a) (.ref pa) (.ref p) (.ref q) y5 y6 y7 y8 b W lit dark H1 (i + 1) [some (.ref a), some (.ref pa), some (.ref p), some (.ref q), some (.int v), y5, y6, y7, y8, some (.int (i : Int)), some (.int light), some (.int (light - gainV b W i))] H5 := fun v e => ⟨_, _, _, by rw [e], S35⟩
        by_cases hlit : (i : Int) ∈ lit
        · rw [if_pos (decide_eq_true hlit)]
          exact fin _ (by rw [estep, show botT b W lit dark i = light - gainV b W i from by unfold botT; rw [if_pos hlit, elr]])
        · rw [if_neg (by rw [decide_eq_true_eq]; exact hlit)]
          refine ⟨_, .inl (SH5.seq hq), rfl, fl _, ?_⟩
          rw [inV_ints]
          by_cases hdk : (i : Int) ∈ dark
          · rw [if_neg (by rw [decide_eq_true hdk]; simp)]
            exact fin _ (by rw [estep, show botT b W lit dark i = 0 from by unfold botT; rw [if_neg hlit, if_pos hdk], Int.add_zero])
          · rw [if_pos (by rw [decide_eq_false hdk]; rfl)]
            have eb : botT b W lit dark i = min 0 (light - gainV b W i) := by unfold botT; rw [if_neg hlit, if_neg hdk, elr]
            refine fin _ ?_
            rw [estep, eb]
            split <;> omega
      · obtain ⟨y9, y10, y11, rfl, S3⟩ := hI
        rw [List.length_map]
        walk_at "wp"
        exact qq _ (S1.trans S3)
end
end Bk

namespace Bk
open PySem PySem.Spec PyProof.Rows L2
local macro_rules | `(tactic| walk_at "wp") => `(tactic| try simp only [rGtT_r, tRaise1f, rSorTL_r, rSorTR_r, tCKw, tLc2_eq, rIntS_r, rLenS_r, rIxS_r, rInS_r, rSplit_r, iStr_eq, rNewStrs, iRng3_eq, rRng3_i, tM1, tFmt, iLT, tAugS, tScT2, rSetL_r, rSetOf2_r, rSorDT_r, rSetD, tDGet2, tDGet, tDNewT, rExtend_r, rSortU_r, rSetOf_r, rSortedSet_r, rNinr_r, rNeN_r, rCatL_r, rSlT_r, rListOf_r, rIsB_b, rNotB_b, tFmtO, tJs, tOst, tCallS, WE, tRaise2, rOne_i, rSorD_r, tDNewK, Int.zero_add, tNever, tFor_eq, tLc_eq, iList, iTup, iRng1_eq, rRng1_i, iRng2_eq, rRng2_i, iEnum_eq, rEnum_r, iZip_eq, rZip_r, tSl, tPart, tNoPart, rSlL_r, rCat_r, rIn_r, rNin_r, rRepr_r, iRevR, rMin_r, rShr_i, rOdd_i, rSetL_r, gSub, rRg1_i, rRg2_i, rInr_r, tAug, ipI_ii, tLstRg, tRg1, tRg2, gTup_r, gUnl_r, rInt1_b, rInt1_i, rRep_r, tStep_r, scal, tSeq, tNext, tAsg, tRet, tRetN, tIfS, tDrop, tCB, tCons, tNil, tVar, tOp, tUn, tC, rU_i, rI_ii, rI0_ii, rEq, rNe, tTest, tB, tAnd, tOr, tNot, tAndV, tOrV, tNotV, tIf, tChain, tLst, tTup, tBM, tBM0, rAppend_r, rIxL_r, rIxT_r, rMx_ii, rMn_ii, rLnL_r, rLnT_r, rIsD_int, rIsD_bool, rIsD_list, rIsD_tuple, tCall, gName, gNil_n, gCons_c, cxK, L2.start, List.map, List.replicate, List.length_cons, List.length_nil, List.cons_append, List.nil_append, List.append_nil, List.getElem?_cons_zero, List.getElem?_cons_succ, Option.some.injEq, exists_eq_left', exists_eq_left, V.int.injEq, V.bl.injEq, V.str.injEq, V.ref.injEq, List.cons.injEq, and_true, true_and, and_self, List.set, wipe, rAll_r, rSum_r, reduceCtorEq, decide_true, decide_false, reduceIte, ite_true, ite_false, if_true, if_false, Bool.false_eq_true, Bool.not_true, Bool.not_false])
local macro_rules | `(tactic| walk_at "shaped") => `(tactic| (simp only [rGtT_r, SeqAt.shaped, PyData.canLay0, PyData.canLayAll0, PyData.depth, PyData.depthAll]; rfl))
local macro_rules | `(tactic| walk_at "lay") => `(tactic| (simp only [rGtT_r, PyData.canLay0, PyData.canLayAll0]; rfl))
local macro_rules | `(tactic| walk_at "wg") => `(tactic| try simp only [gName, gTup_r, gCons_c, gNil_n, cxK, List.set, List.cons.injEq, and_true, true_and, exists_eq_left', exists_eq_left, List.length_cons, List.length_nil])
section
variable {P : Program} {w : World} {K : PySem.W.Frag} {mg : Str → Option Value} {base : Heap}
def spDark (K : PySem.W.Frag) : Sp := fun vs H Q _ => ∃ m n : Nat, vs = [.int (m : Int), .int (n : Int)] ∧ n ≤ 1000 ∧ ∀ H' p ds, Same H H' → H' p = some (.lst ((ds : List Int).map V.int)) → DarkOk ds n → Q (.ref p) H'
def thereL (g : Good) (k n : Nat) : List Int := ((List.range n).filter fun j => (loafP g j k).isSome).map fun j => ((j : Nat) : Int)
theorem thereL_succ (g : Good) (k n : Nat) : thereL g k (n + 1) = thereL g k n ++ (if (loafP g n k).isSome then [(n : Int)] else []) := by
  unfold thereL
  rw [List.range_succ, List.filter_append, List.map_append]
  congr 1
  cases h : (loafP g n k).isSome with
  | true =>
    rw [List.filter_cons_of_pos (by rw [h])]
    rfl
  | false =>
    rw [List.filter_cons_of_neg (by rw [h]; exact Bool.false_ne_true)]
    rfl
theorem thereL_len (g : Good) (k n : Nat) : (thereL g k n).length ≤ n := by
  unfold thereL
  rw [List.length_map]
  exact Nat.le_trans (List.length_filter_le _ _) (by rw [List.length_range]; exact Nat.le_refl _)
theorem thereL_eq {g : Good} {k last : Nat} (hl0 : ∀ l, g.life = some l → 0 ≤ l) (R : ReachL g k last) : thereL g k g.days.length = (List.range (last + 1 - (reachF g k).toNat)).map fun m => (((reachF g k).toNat + m : Nat) : Int) := by
  have n0 := reachF_nonneg g k
  obtain ⟨fn, hfn⟩ : ∃ fn : Nat, reachF g k = (fn : Int) := ⟨(reachF g k).toNat, by omega⟩
  rw [hfn, Int.toNat_natCast]
  have hlt := R.lt
  have hfil := filter_range (f := fn) (l := last) (fun j => decide (fn ≤ j) && decide (j ≤ last)) (fun _ => rfl) g.days.length
  rw [show min g.days.length (last + 1) - fn = last + 1 - fn by omega] at hfil
  have e : (List.range g.days.length).filter (fun j => (loafP g j k).isSome) = (List.range (last + 1 - fn)).map (fn + ·) := by
    rw [← hfil]
    apply List.filter_congr
    intro j hj
    have hj := List.mem_range.mp hj
    have hiff := reach_iff R hl0 hj
    rw [hfn] at hiff
    cases hp : loafP g j k with
    | none =>
      rw [hp] at hiff
      have : ¬ ((fn : Int) ≤ (j : Int) ∧ j ≤ last) := fun z => hiff.mpr z rfl
      show false = (decide (fn ≤ j) && decide (j ≤ last))
      refine Eq.symm ?_
      rw [Bool.and_eq_false_iff, decide_eq_false_iff_not, decide_eq_false_iff_not]
      omega
    | some z =>
      rw [hp] at hiff
      have := hiff.mp (by intro z; cases z)
      show true = (decide (fn ≤ j) && decide (j ≤ last))
      refine Eq.symm ?_
      rw [Bool.and_eq_true, decide_eq_true_eq, decide_eq_true_eq]
      omega
  unfold thereL
  rw [e, List.map_map]
  rfl
def spLReach (K : PySem.W.Frag) : Sp := fun vs H Q _ => ∃ x g, ∃ n k : Nat, vs = [x, .int (k : Int)] ∧ Th K H x (goodD g) ∧ GoodK g n ∧ k < n ∧ ∀ H' p, Same H H' → H' p = some (.tup [.int (reachF g k), .int (lastN g k : Int)]) → Q (.ref p) H'
def spReaches (K : PySem.W.Frag) : Sp := fun vs H Q _ => ∃ x b, vs = [x] ∧ Th K H x (bakD b) ∧ bakB (bakD b) = true ∧ ∀ H' y, Same H H' → TrL H' y (wantsB b) → Q y H'
/-- the days of a stretch that are not dark -/
def brightL (ds : List Int) (i : Nat) : Nat → List Int
  | 0 => []
  | k + 1 => brightL ds i k ++ (if ((i + k : Nat) : Int) ∈ ds then [] else [((i + k : Nat) : Int)])
theorem brightL_len (ds : List Int) (i : Nat) : ∀ k, (brightL ds i k).length ≤ k
  | 0 => Nat.le_refl _
  | k + 1 => by
    have := brightL_len ds i k
    unfold brightL
    rw [List.length_append]
    split <;> simp <;> omega
theorem bright_room {b : Bak} {ds : List Int} {i : Nat} : ∀ k, i + k ≤ b.lights.length → (((roomsL b ds).drop i).take k).sum = roomB b * ((brightL ds i k).length : Int)
  | 0, _ => by simp [brightL]
  | k + 1, h => by
    have ih := bright_room (b := b) (ds := ds) (i := i) k (by omega)
    rw [roomS_succ (by rw [roomsL_len]; omega), ih]
    have e : (roomsL b ds).getD (i + k) 0 = roomD b ds (i + k) := by
      unfold roomsL
      rw [List.getD_eq_getElem?_getD, List.getElem?_map, List.getElem?_range (by omega)]
      rfl
    rw [e, show brightL ds i (k + 1) = brightL ds i k ++ (if ((i + k : Nat) : Int) ∈ ds then [] else [((i + k : Nat) : Int)]) from rfl]
    unfold roomD
    by_cases hm : ((i + k : Nat) : Int) ∈ ds
    · rw [if_pos hm, if_pos hm]
      simp
    · rw [if_neg hm, if_neg hm]
      simp only [List.length_append, List.length_cons, List.length_nil, Nat.zero_add, Int.natCast_add, Int.natCast_one, Int.mul_add, Int.mul_one]
theorem want_ok2 {d : Day} (k : dayB (dayD d) = true) : 0 ≤ d.want := by
  simp only [dayD, dayB, Bool.and_eq_true] at k
  have k := k.1.1.1
  simp only [numD, Bool.and_eq_true, decide_eq_true_eq] at k
  exact k.1
theorem needW_bounds {b : Bak} (hb : bakB (bakD b) = true) (i j : Nat) : 0 ≤ needW (wantsB b) i j ∧ needW (wantsB b) i j ≤ allWanted b := by
  have e : allWanted b = ((wantsB b).map fun t => t.2.2).sum := by
    unfold allWanted wantsB
    congr 1
    rw [List.map_flatten, List.map_map]
    congr 1
    refine List.map_congr_left fun g hg => ?_
    show g.days.map (·.want) = (wantsG g).map fun t => t.2.2
    unfold wantsG
    rw [List.map_map]
    refine List.ext_getElem? fun k => ?_
    rw [List.getElem?_map, List.getElem?_map]
    by_cases hk : k < g.days.length
    · rw [List.getElem?_range hk, List.getElem?_eq_getElem hk]
      show some _ = some (wantA g k)
      unfold wantA
      rw [List.getElem?_eq_getElem hk]
    · rw [List.getElem?_eq_none (by omega), List.getElem?_eq_none (by rw [List.length_range]; omega)]
      rfl
  have pos : ∀ t ∈ wantsB b, 0 ≤ t.2.2 := fun t ht => by
    obtain ⟨g, hg, k, hk, rfl⟩ := wantsB_mem hb ht
    have hgk := bak_goodK hb hg
    have hk' : k < g.days.length := by rw [hgk.1]; exact hk
    show 0 ≤ wantA g k
    unfold wantA
    rw [List.getElem?_eq_getElem hk']
    exact want_ok2 (hgk.2.2.2.2 _ (List.getElem_mem hk'))
  rw [e]
  unfold needW
  generalize wantsB b = W at pos
  induction W with
  | nil => exact ⟨Int.le_refl _, Int.le_refl _⟩
  | cons t r ih =>
    have p := pos t List.mem_cons_self
    obtain ⟨i1, i2⟩ := ih fun t ht => pos t (List.mem_cons_of_mem _ ht)
    simp only [List.map_cons, List.sum_cons]
    unfold needOf at i1 i2 ⊢
    split <;> omega
def spBeyond (K : PySem.W.Frag) : Sp := fun vs H Q _ => ∃ b a ds y, ∃ i j : Nat, vs = [optV b.bound, .ref a, y, .int (i : Int), .int (j : Int)] ∧ bakB (bakD b) = true ∧ SqL K H a ((ds : List Int).map V.int) ∧ TrL H y (wantsB b) ∧ i ≤ j ∧ j < b.lights.length ∧ ∀ H', Same H H' → Q (.bl (decide (roomS (roomsL b ds) i j < needW (wantsB b) i j))) H'
abbrev s_beyond : Stmt := top 62
theorem sc_beyond : FnScope ["_law_bakery", "_law_dark", "_law_first", "_law_last", "_law_lights", "_law_bound", "_law_goods", "_law_needed", "_law_good", "_law_given", "_law_there", "_law_room", "_law_baked", "_law_day_here"] ["_law_bakery", "_law_dark", "_law_first", "_law_last"] (defScope s_beyond) := ⟨rfl, rfl, rfl, by decide +kernel, rfl, by decide +kernel, by decide +kernel⟩
def spBeyondL (K : PySem.W.Frag) : Sp := fun vs H Q _ => ∃ x b q ds, ∃ i j : Nat, vs = [x, .ref q, .int (i : Int), .int (j : Int)] ∧ Th K H x (bakD b) ∧ bakB (bakD b) = true ∧ SqL K H q ((ds : List Int).map V.int) ∧ i ≤ j ∧ j < b.lights.length ∧ ∀ H', Same H H' → Q (.bl (overD b ds i j)) H'
theorem needW_snoc (U : List Tr) (u : Tr) (i j : Nat) : needW (U ++ [u]) i j = needW U i j + needOf u (decide ((i : Int) ≤ u.1) && decide (u.2.1 ≤ (j : Int))) := by
  unfold needW
  rw [List.map_append, List.sum_append]
  simp
theorem ok_beyond54 {f : Addr} {fd : FuncData} (F : Fun K "_law_beyond" "_law_beyond" s_beyond f fd) (B : Bi mg) (D_price : Def P w K mg base "_law_price" 1 ["_law_good", "_law_baked", "_law_given"] (spLPrice K)) : FnOk P w K mg base CX0 2 f fd ["_law_bakery", "_law_dark", "_law_first", "_law_last"] (spBeyondL K) := by
  refine F.ok sc_beyond (fun vs H Q E h => ?_) (fun cdv A outer s H vs Q E hr h => ?_)
  · obtain ⟨_, _, _, _, _, _, rfl, _⟩ := h
    rfl
  · obtain ⟨x, b, ad, ds, i, j, rfl, hx, hb, hds, hij, hj, q⟩ := h
    refine ⟨_, (pss_cons (ps_asg (pv 0) (pg_tup rfl (pgs_cons (pg_name (i := 4) sc_beyond.nd rfl (Or.inl rfl)) (pgs_cons (pg_name (i := 5) sc_beyond.nd rfl (Or.inl rfl)) (pgs_cons (pg_name (i := 6) sc_beyond.nd rfl (Or.inl rfl)) pgs_nil)))))
 (pss_cons (ps_set (i := 7) sc_beyond.nd rfl (Or.inl rfl) pe_int)
 (pss_cons (ps_for PassesOwn.never rfl (pi_list (pv 6)) (pg_name (i := 8) sc_beyond.nd rfl (Or.inr rfl)) (pss_one (ps_for PassesOwn.never rfl (pi_range1 (by rfl) B.range (pa_cons (pe_callB call_lnL (by rfl) B.len (by decide +kernel) (pa_cons (pv 4) pa_nil)) pa_nil)) (pg_name (i := 9) sc_beyond.nd rfl (Or.inr rfl)) (pss_cons (ps_setLc (i := 10) (own := [("_law_baked", 12)]) (g := (gName 12)) rfl sc_beyond.nd rfl rfl (sw_true rfl rfl rfl (by decide +kernel)) (pi_range1 (by rfl) B.range (pa_cons (pe_callB call_lnL (by rfl) B.len (by decide +kernel) (pa_cons (pv 4) pa_nil)) pa_nil)) (blkOk_by (own := [("_law_baked", 12)]) (N := ["_law_bakery", "_law_dark", "_law_first", "_law_last", "_law_lights", "_law_bound", "_law_goods", "_law_needed", "_law_good", "_law_given", "_law_there", "_law_room", "_law_baked", "_law_day_here"]) (sc := defScope s_beyond) (by decide +kernel)) (fun _ _ _ _ _ => (pg_name (i := 12) sc_beyond.nd rfl (Or.inl rfl))) (fun _ _ _ _ _ => (pts_one (pt_cmpR op_notN (pe_callD D_price hr (by rfl) (pa_cons (pv 8) (pa_cons (pv 12) (pa_cons (pv 9) pa_nil)))) pe_non (nomark _)))) (fun _ _ _ _ _ => (pv 12)))
 (pss_one (ps_if (PW.pt (pw_and (pt_cmpR op_le (pv 2) (pe_ix ix_list (pv 10) pe_int (fun _ _ => rfl)) (nomark _)) (pw_and1 (pt_cmpR op_le (pe_ix ix_list (pv 10) (pe_un un_neg pe_int) (fun _ _ => rfl)) (pv 3) (nomark _))))) (pss_one (ps_set (i := 7) sc_beyond.nd rfl (Or.inl rfl) (pe_op op_add (pv 7) (pe_ix ix_tup (pe_ix ix_list (pe_ix ix_tup (pv 8) pe_int (fun _ _ => rfl)) (pv 9) (fun _ _ => rfl)) pe_int (fun _ _ => rfl))))) pss_nil))))))
 (pss_cons (ps_set (i := 11) sc_beyond.nd rfl (Or.inl rfl) (pe_callB call_lnL (by rfl) B.len (by decide +kernel) (pa_cons (pe_lc (own := [("_law_day_here", 13)]) (g := (gName 13)) (tt := (tTest (tOp (rIn K true) _ _))) rfl sc_beyond.nd (pi_range2 (by rfl) B.range (pa_cons (pv 2) (pa_cons (pe_op op_add (pv 3) pe_int) pa_nil))) (blkOk_by (own := [("_law_day_here", 13)]) (N := ["_law_bakery", "_law_dark", "_law_first", "_law_last", "_law_lights", "_law_bound", "_law_goods", "_law_needed", "_law_good", "_law_given", "_law_there", "_law_room", "_law_baked", "_law_day_here"]) (sc := defScope s_beyond) (by decide +kernel)) (fun _ _ _ _ _ => (pg_name (i := 13) sc_beyond.nd rfl (Or.inl rfl))) (fun _ _ _ _ _ => (pts_one (pt_cmpR op_notIn_seq (pv 13) (pv 1) (by rfl)))) (fun _ _ _ _ _ => (pv 13))) pa_nil)))
 (pss_one (ps_ret (pe_ifExp (pt_cmpR op_isN (pv 5) pe_non (nomark _)) (pe_and (pe_cmpR op_gt (pv 7) pe_int (nomark _)) (pe_one (pe_cmpR op_eq (pv 11) pe_int (nomark _)))) (pe_cmpR op_gt (pv 7) (pe_op op_mul (pv 5) (pv 11)) (nomark _))))))))), ?_⟩
    obtain ⟨⟨c1, c2⟩, _, _, ⟨c5, c6⟩, _⟩ := bak_parts hb
    obtain ⟨a, l, v2, ga, xl, xg, rfl, ht, hl, hla, h2, hgl, hga⟩ := Th.bak hx
    have e2 := h2.opt
    subst e2
    have lenG : xg.length = b.goods.length := by rw [hga.length, List.length_map]
    have lenL : xl.length = b.lights.length := by rw [hla.length, List.length_map]
    walk_at "wp"
    refine ⟨_, ht, rfl, ?_⟩
    walk_at "wp"
    refine ⟨⟨_, hgl⟩, ?_⟩
    refine LoopR.by (walk_list (xs := xg)) (fun m σ H' => (∃ y8 y9 y10 y11 y12 y13 : Option V, σ = [some (.ref a), some (.ref ad), some (.int (i : Int)), some (.int (j : Int)), some (.ref l), some (optV b.bound), some (.ref ga), some (.int (needW ((b.goods.take m).map wantsG).flatten i j)), y8, y9, y10, y11, y12, y13]) ∧ Same H H') ⟨⟨_, _, _, _, _, _, rfl⟩, Same.refl _⟩ (fun m σ H' _ hI => hI.2.seq hgl) (fun m v σ H0 H1 hm hI yy => ?_) (fun σ H1 hI => ?_)
    · obtain ⟨rfl, hxi⟩ := yy
      obtain ⟨⟨y8, y9, y10, y11, y12, y13, rfl⟩, S1⟩ := hI
      obtain ⟨dd, hdd, hxd⟩ := hga.get hxi
      rw [List.getElem?_map] at hdd
      obtain ⟨g, hgi, rfl⟩ := Option.map_eq_some_iff.mp hdd
      have hgk := bak_goodK hb (List.mem_of_getElem? hgi)
      have hst : ((b.goods.take (m + 1)).map wantsG).flatten = ((b.goods.take m).map wantsG).flatten ++ wantsG g := by
        rw [List.take_succ, hgi, List.map_append, List.flatten_append]
        simp only [Option.toList_some, List.map_cons, List.map_nil, List.flatten_cons, List.flatten_nil, List.append_nil]
      generalize ((b.goods.take m).map wantsG).flatten = pre at hst ⊢
      have hxd0 := hxd
      obtain ⟨tg, ag, xs, rfl, htg, hs, ha⟩ := hxd.good
      obtain ⟨hn, n1, n2, hl0, hok⟩ := hgk
      walk_at "wp"
      refine ⟨_, S1.seq hl, ?_⟩
      rw [lenL]
      refine ⟨by omega, by omega, ?_⟩
      rw [show (b.lights.length : Int).toNat = b.lights.length by omega]
      refine LoopR.by walk_range (fun k σ H' => (∃ y9 y10 y11 y12 y13 : Option V, σ = [some (.ref a), some (.ref ad), some (.int (i : Int)), some (.int (j : Int)), some (.ref l), some (optV b.bound), some (.ref ga), some (.int (needW (pre ++ (List.range k).map (trG g)) i j)), some (.ref tg), y9, y10, y11, y12, y13]) ∧ Same H H') ⟨⟨y9, y10, y11, y12, y13, by rw [List.range_zero, List.map_nil, List.append_nil]⟩, S1⟩ (fun _ _ _ _ _ => trivial) (fun k v σ H2 H3 hk hI yy => ?_) (fun σ H2 hI => ?_)
      · obtain ⟨rfl, rfl⟩ := yy
        obtain ⟨⟨y9, y10, y11, y12, y13, rfl⟩, S2⟩ := hI
        obtain ⟨last, R⟩ := reachL_ex ⟨hn, n1, n2, hl0, hok⟩ hk
        have hd : g.days[k]? = some (g.days[k]'(by omega)) := List.getElem?_eq_getElem (by omega)
        generalize g.days[k]'(by omega) = d at hd
        obtain ⟨v, hv, hvd⟩ := ha.get' (i := k) (d := dayD d) (by rw [List.getElem?_map, hd]; rfl)
        obtain ⟨td, rfl, htd⟩ := hvd.day
        walk_at "wp"
        refine ⟨_, S2.seq hl, ?_⟩
        rw [lenL]
        refine ⟨by omega, by omega, fun D hD => ?_⟩
        rw [show (b.lights.length : Int).toNat = b.lights.length by omega]
        refine LcR.by walk_range (fun u H' => Same H H' ∧ H' D = some (.lst ((thereL g k u).map V.int))) ⟨S2.trans (same_upd hD), upd_same⟩ (fun _ _ _ _ => trivial) (fun u v H4 H5 hu hI yy => ?_) (fun H4 hI => ?_)
        · obtain ⟨rfl, rfl⟩ := yy
          obtain ⟨S4, ea⟩ := hI
          have es := thereL_succ g k u
          have el := thereL_len g k u
          walk_at "wp"
          refine ⟨_, g, u, k, rfl, hxd0.same S4, by omega, by omega, fun H6 S6 => ?_⟩
          cases hp : loafP g u k with
          | none =>
            simp only [optV]
            walk_at "wp"
            refine ⟨S4.trans S6, ?_⟩
            rw [es, hp]
            simp only [Option.isSome_none, Bool.false_eq_true, if_false, List.append_nil]
            exact S6 _ _ ea
          | some z =>
            simp only [optV]
            walk_at "wp"
            refine ⟨_, S6 _ _ ea, sz100l (by rw [List.length_map]; omega), same_mut (S4.trans S6) (S2.free hD), ?_⟩
            rw [upd_same, es, hp, List.map_append]
            rfl
        · obtain ⟨S4, ea⟩ := hI
          have n0 := reachF_nonneg g k
          have n1' := reachF_le (g := g) (k := k) hl0
          have hle := R.le
          have hlt := R.lt
          rw [← hn, thereL_eq hl0 R] at ea
          have hfl : (((List.range (last + 1 - (reachF g k).toNat)).map fun m => (((reachF g k).toNat + m : Nat) : Int)).map V.int).length = (last - (reachF g k).toNat) + 1 := by
            rw [List.length_map, List.length_map, List.length_range]
            omega
          have h0 : (((List.range (last + 1 - (reachF g k).toNat)).map fun m => (((reachF g k).toNat + m : Nat) : Int)).map V.int)[0]? = some (.int (reachF g k)) := by
            rw [List.getElem?_map, List.getElem?_map, List.getElem?_range (by omega)]
            show some (V.int (((reachF g k).toNat + 0 : Nat) : Int)) = _
            rw [show (((reachF g k).toNat + 0 : Nat) : Int) = reachF g k by omega]
          have h1 : (((List.range (last + 1 - (reachF g k).toNat)).map fun m => (((reachF g k).toNat + m : Nat) : Int)).map V.int)[last - (reachF g k).toNat]? = some (.int (last : Int)) := by
            rw [List.getElem?_map, List.getElem?_map, List.getElem?_range (by omega)]
            show some (V.int (((reachF g k).toNat + (last - (reachF g k).toNat) : Nat) : Int)) = _
            rw [show (((reachF g k).toNat + (last - (reachF g k).toNat) : Nat) : Int) = (last : Int) by omega]
          have htr : trG g k = (reachF g k, (last : Int), d.want) := by
            unfold trG
            rw [lastN_eq hl0 R]
            unfold wantA
            rw [hd]
          have hsn : needW (pre ++ (List.range (k + 1)).map (trG g)) i j = needW (pre ++ (List.range k).map (trG g)) i j + needOf (reachF g k, (last : Int), d.want) (decide ((i : Int) ≤ reachF g k) && decide ((last : Int) ≤ (j : Int))) := by
            rw [List.range_succ, List.map_append, ← List.append_assoc]
            show needW (_ ++ [trG g k]) i j = _
            rw [needW_snoc, htr]
          walk_at "wp"
          refine ⟨_, _, SqL.of ea, atI_nat (j := 0) h0, ?_⟩
          walk_at "wp"
          have no : (decide ((i : Int) ≤ reachF g k) && decide ((last : Int) ≤ (j : Int))) = false → needW (pre ++ (List.range k).map (trG g)) i j = needW (pre ++ (List.range (k + 1)).map (trG g)) i j := fun e => by
            rw [hsn, e]
            simp [needOf]
          refine ite2 (fun h2 => ?_) (fun h2 => ⟨⟨_, _, _, _, _, no (by rw [Bool.eq_false_iff.mpr h2, Bool.false_and]), rfl, rfl, rfl, rfl, rfl⟩, S4⟩)
          refine ⟨_, _, SqL.of ea, atI_last hfl h1, ?_⟩
          walk_at "wp"
          refine ite2 (fun h3 => ?_) (fun h3 => ⟨⟨_, _, _, _, _, no (by rw [Bool.eq_false_iff.mpr h3, Bool.and_false]), rfl, rfl, rfl, rfl, rfl⟩, S4⟩)
          refine ⟨_, _, Same.tup S4 htg, atI_nat (j := 0) rfl, ?_⟩
          walk_at "wp"
          refine ⟨_, _, S4.seq hs, atI_nat (j := k) hv, ?_⟩
          walk_at "wp"
          refine ⟨_, _, Same.tup S4 htd, atI_nat (j := 0) rfl, ?_⟩
          walk_at "wp"
          refine ⟨⟨_, _, _, _, _, ?_, rfl, rfl, rfl, rfl, rfl⟩, S4⟩
          rw [hsn, h2, h3]
          simp [needOf]
      · obtain ⟨⟨y9, y10, y11, y12, y13, rfl⟩, S2⟩ := hI
        refine ⟨⟨some (.ref tg), y9, y10, y11, y12, y13, ?_⟩, S2⟩
        rw [hst]
        unfold wantsG
        rw [hn]
    · obtain ⟨⟨y8, y9, y10, y11, y12, y13, rfl⟩, S1⟩ := hI
      rw [lenG, List.take_length]
      obtain ⟨nb1, nb2⟩ := needW_bounds hb i j
      have ew : (b.goods.map wantsG).flatten = wantsB b := rfl
      rw [ew]
      walk_at "wp"
      refine ⟨⟨by omega, by omega, by omega, by omega⟩, fun D2 hD2 => ?_⟩
      rw [show ((j : Int) + 1 - (i : Int)).toNat = j + 1 - i by omega]
      refine LcR.by (walk_range (lo := (i : Int)) (n := j + 1 - i)) (fun k H' => Same H1 H' ∧ H' D2 = some (.lst ((brightL ds i k).map V.int))) ⟨same_upd hD2, upd_same⟩ (fun _ _ _ _ => trivial) (fun k v H0 H6 hk hI yy => ?_) (fun H6 hI => ?_)
      · obtain ⟨rfl, rfl⟩ := yy
        obtain ⟨S6, e6⟩ := hI
        have hbl := brightL_len ds i k
        have hbs : brightL ds i (k + 1) = brightL ds i k ++ (if ((i + k : Nat) : Int) ∈ ds then [] else [((i + k : Nat) : Int)]) := rfl
        walk_at "wp"
        refine ⟨_, .inl ((S1.trans S6).seq hds), rfl, flat_ints _, ?_⟩
        rw [show (i : Int) + (k : Int) = ((i + k : Nat) : Int) by omega, inV_ints]
        by_cases hm : ((i + k : Nat) : Int) ∈ ds
        · rw [decide_eq_true hm]
          refine ⟨S6, ?_⟩
          rw [hbs, if_pos hm, List.append_nil]
          exact e6
        · rw [decide_eq_false hm]
          refine ⟨_, e6, sz100l (by rw [List.length_map]; omega), same_mut S6 hD2, ?_⟩
          rw [upd_same, hbs, if_neg hm, List.map_append]
          rfl
      · obtain ⟨S6, e6⟩ := hI
        refine ⟨_, SqL.of e6, ?_⟩
        have hroom : roomS (roomsL b ds) i j = roomB b * ((brightL ds i (j + 1 - i)).length : Int) := by
          unfold roomS
          exact bright_room (j + 1 - i) (by omega)
        have hq := q H6 (S1.trans S6)
        unfold overD at hq
        rw [hroom] at hq
        rw [List.length_map]
        have hbl := brightL_len ds i (j + 1 - i)
        generalize (brightL ds i (j + 1 - i)).length = c at hq hbl ⊢
        generalize needW (wantsB b) i j = nd at hq nb1 nb2 ⊢
        unfold roomB at hq
        obtain ⟨_, _, hbo, _⟩ := bak_parts hb
        cases hbn : b.bound with
        | none =>
          rw [hbn] at hq
          simp only [optV]
          rw [if_pos (by decide)]
          have hq : Q (.bl (decide (allWanted b * (c : Int) < nd))) H6 := hq
          by_cases hpos : 0 < nd
          · rw [if_pos (decide_eq_true hpos)]
            refine qb ?_ hq
            refine decide_eq_decide.mpr ?_
            by_cases hc : c = 0
            · subst hc
              simp
              omega
            · have : allWanted b * 1 ≤ allWanted b * (c : Int) := Int.mul_le_mul_of_nonneg_left (by omega) (by omega)
              constructor
              · intro z
                omega
              · intro z
                omega
          · rw [if_neg (fun z => hpos (of_decide_eq_true z))]
            refine qb ?_ hq
            have : 0 ≤ allWanted b * (c : Int) := Int.mul_nonneg (by omega) (by omega)
            exact (decide_eq_false (by omega)).symm
        | some z =>
          rw [hbn] at hq hbo
          simp only [optV]
          simp only [optD, boundB, Bool.and_eq_true, numD, decide_eq_true_eq] at hbo
          walk_at "wp"
          refine ⟨.inl ⟨by omega, by omega⟩, ?_⟩
          exact hq
end
end Bk

namespace Bk
open PySem PySem.Spec PyProof.Rows L2
local macro_rules | `(tactic| walk_at "wp") => `(tactic| try simp only [rGtT_r, tRaise1f, rSorTL_r, rSorTR_r, tCKw, tLc2_eq, rIntS_r, rLenS_r, rIxS_r, rInS_r, rSplit_r, iStr_eq, rNewStrs, iRng3_eq, rRng3_i, tM1, tFmt, iLT, tAugS, tScT2, rSetL_r, rSetOf2_r, rSorDT_r, rSetD, tDGet2, tDGet, tDNewT, rExtend_r, rSortU_r, rSetOf_r, rSortedSet_r, rNinr_r, rNeN_r, rCatL_r, rSlT_r, rListOf_r, rIsB_b, rNotB_b, tFmtO, tJs, tOst, tCallS, WE, tRaise2, rOne_i, rSorD_r, tDNewK, Int.zero_add, tNever, tFor_eq, tLc_eq, iList, iTup, iRng1_eq, rRng1_i, iRng2_eq, rRng2_i, iEnum_eq, rEnum_r, iZip_eq, rZip_r, tSl, tPart, tNoPart, rSlL_r, rCat_r, rIn_r, rNin_r, rRepr_r, iRevR, rMin_r, rShr_i, rOdd_i, rSetL_r, gSub, rRg1_i, rRg2_i, rInr_r, tAug, ipI_ii, tLstRg, tRg1, tRg2, gTup_r, gUnl_r, rInt1_b, rInt1_i, rRep_r, tStep_r, scal, tSeq, tNext, tAsg, tRet, tRetN, tIfS, tDrop, tCB, tCons, tNil, tVar, tOp, tUn, tC, rU_i, rI_ii, rI0_ii, rEq, rNe, tTest, tB, tAnd, tOr, tNot, tAndV, tOrV, tNotV, tIf, tChain, tLst, tTup, tBM, tBM0, rAppend_r, rIxL_r, rIxT_r, rMx_ii, rMn_ii, rLnL_r, rLnT_r, rIsD_int, rIsD_bool, rIsD_list, rIsD_tuple, tCall, gName, gNil_n, gCons_c, cxK, L2.start, List.map, List.replicate, List.length_cons, List.length_nil, List.cons_append, List.nil_append, List.append_nil, List.getElem?_cons_zero, List.getElem?_cons_succ, Option.some.injEq, exists_eq_left', exists_eq_left, V.int.injEq, V.bl.injEq, V.str.injEq, V.ref.injEq, List.cons.injEq, and_true, true_and, and_self, List.set, wipe, rAll_r, rSum_r, reduceCtorEq, decide_true, decide_false, reduceIte, ite_true, ite_false, if_true, if_false, Bool.false_eq_true, Bool.not_true, Bool.not_false])
local macro_rules | `(tactic| walk_at "shaped") => `(tactic| (simp only [rGtT_r, SeqAt.shaped, PyData.canLay0, PyData.canLayAll0, PyData.depth, PyData.depthAll]; rfl))
local macro_rules | `(tactic| walk_at "lay") => `(tactic| (simp only [rGtT_r, PyData.canLay0, PyData.canLayAll0]; rfl))
local macro_rules | `(tactic| walk_at "wg") => `(tactic| try simp only [gName, gTup_r, gCons_c, gNil_n, cxK, List.set, List.cons.injEq, and_true, true_and, exists_eq_left', exists_eq_left, List.length_cons, List.length_nil])
section
variable {P : Program} {w : World} {K : PySem.W.Frag} {mg : Str → Option Value} {base : Heap}
abbrev s_whole : Stmt := top 63
theorem sc_whole : FnScope ["_law_thing"] ["_law_thing"] (defScope s_whole) := ⟨rfl, rfl, rfl, by decide +kernel, rfl, by decide +kernel, by decide +kernel⟩
theorem ok_whole54 {f : Addr} {fd : FuncData} (F : Fun K "_law_whole" "_law_whole" s_whole f fd) (B : Bi mg) : FnOk P w K mg base CX0 1 f fd ["_law_thing"] (spWhole K) := by
  refine F.ok sc_whole (fun vs H Q E h => ?_) (fun cdv A outer s H vs Q E hr h => ?_)
  · obtain ⟨_, _, rfl, _⟩ := h
    rfl
  · obtain ⟨x, d, rfl, hx, q⟩ := h
    refine ⟨_, (pss_one (ps_ret (pe_and (pe_callB (call_isD .int) (by rfl) B.isinstance (by decide +kernel) (pa_cons (pv 0) (pa_cons (pe_bltn (v := .ty "int") (by rfl) B.int (by decide +kernel) rfl) pa_nil))) (pe_one (pe_not (pe_callB (call_isD .bool) (by rfl) B.isinstance (by decide +kernel) (pa_cons (pv 0) (pa_cons (pe_bltn (v := .ty "bool") (by rfl) B.bool (by decide +kernel) rfl) pa_nil)))))))), ?_⟩
    walk_at "wp"
    refine ⟨d, hx, ite2 (fun h => ⟨d, hx, ?_⟩) (fun h => ?_)⟩
    · rw [← wholeD_is, h] at q
      exact q
    · rw [← wholeD_is, Bool.eq_false_iff.mpr h] at q
      exact q
abbrev s_are_loaf_prices_l : Stmt := top 64
theorem sc_are_loaf_prices_l : FnScope ["_law_bakery", "_law_thing", "_law_row", "_law_one"] ["_law_bakery", "_law_thing"] (defScope s_are_loaf_prices_l) := ⟨rfl, rfl, rfl, by decide +kernel, rfl, by decide +kernel, by decide +kernel⟩
theorem ok_alp54 {f : Addr} {fd : FuncData} (F : Fun K "_law_are_loaf_prices" "_law_are_loaf_prices" s_are_loaf_prices_l f fd) (B : Bi mg) (D_whole : Def P w K mg base "_law_whole" 1 ["_law_thing"] (spWhole K)) : FnOk P w K mg base CX0 2 f fd ["_law_bakery", "_law_thing"] (spALP K) := by
  refine F.ok sc_are_loaf_prices_l (fun vs H Q E h => ?_) (fun cdv A outer s H vs Q E hr h => ?_)
  · obtain ⟨_, _, _, _, rfl, _⟩ := h
    rfl
  · obtain ⟨x, b, y, d, rfl, hx, hb, hy, q⟩ := h
    refine ⟨_, (pss_cons (ps_if (PW.pt (pw_or (pt_not (pt_val (pe_callB (call_isD .list) (by rfl) B.isinstance (by decide +kernel) (pa_cons (pv 1) (pa_cons (pe_bltn (v := .ty "list") (by rfl) B.list (by decide +kernel) rfl) pa_nil))))) (pw_or1 (pt_cmpR op_ne (pe_callB call_lnL (by rfl) B.len (by decide +kernel) (pa_cons (pv 1) pa_nil)) (pe_callB call_lnL (by rfl) B.len (by decide +kernel) (pa_cons (pe_ix ix_tup (pv 0) pe_int (fun _ _ => rfl)) pa_nil)) (nomark _))))) (pss_one (ps_ret pe_bl)) pss_nil)
 (pss_cons (ps_for PassesOwn.never rfl (pi_list (pv 1)) (pg_name (i := 2) sc_are_loaf_prices_l.nd rfl (Or.inl rfl)) (pss_one (ps_if (PW.pt (pw_or (pt_not (pt_val (pe_callB (call_isD .list) (by rfl) B.isinstance (by decide +kernel) (pa_cons (pv 2) (pa_cons (pe_bltn (v := .ty "list") (by rfl) B.list (by decide +kernel) rfl) pa_nil))))) (pw_or (pt_cmpR op_ne (pe_callB call_lnL (by rfl) B.len (by decide +kernel) (pa_cons (pv 2) pa_nil)) (pe_callB call_lnL (by rfl) B.len (by decide +kernel) (pa_cons (pe_ix ix_tup (pv 0) pe_int (fun _ _ => rfl)) pa_nil)) (nomark _)) (pw_or1 (pt_cmpR (op_neNil hr.units) (pe_lc (own := [("_law_one", 3)]) (g := (gName 3)) rfl sc_are_loaf_prices_l.nd (pi_list (pv 2)) (blkOk_by (own := [("_law_one", 3)]) (N := ["_law_bakery", "_law_thing", "_law_row", "_law_one"]) (sc := defScope s_are_loaf_prices_l) (by decide +kernel)) (fun _ _ _ _ _ => (pg_name (i := 3) sc_are_loaf_prices_l.nd rfl (Or.inl rfl))) (fun _ _ _ _ _ => (pts_one (pt_not (pt_val (pe_callD D_whole hr (by rfl) (pa_cons (pv 3) pa_nil)))))) (fun _ _ _ _ _ => (pv 3))) (pe_lst pa_nil) (nomark _)))))) (pss_one (ps_ret pe_bl)) pss_nil)))
 (pss_one (ps_ret pe_bl)))), ?_⟩
    obtain ⟨⟨c1, c2⟩, c3, _, ⟨c5, c6⟩, c7⟩ := bak_parts hb
    obtain ⟨a, l, v2, ga, xl, xg, rfl, ht, hl, hla, h2, hgl, hga⟩ := Th.bak hx
    have lenL : xl.length = b.lights.length := by rw [hla.length, List.length_map]
    have lenG : xg.length = b.goods.length := by rw [hga.length, List.length_map]
    walk_at "wp"
    refine ⟨d, hy, ?_⟩
    cases hL : isD Cl.list d with
    | false =>
      rw [if_pos (by rfl)]
      refine q _ _ (Same.refl _) ⟨fun e => (by cases e), fun ⟨W, e, _⟩ => ?_⟩
      subst e
      cases hL
    | true =>
      rw [if_neg (by decide)]
      obtain ⟨ds, rfl⟩ : ∃ ds, d = .list ds := by
        cases d with
        | list ds => exact ⟨ds, rfl⟩
        | _ => cases hL
      cases hy with
      | @lst py ys _ hs ha =>
      have hyl : ys.length = ds.length := ha.length
      walk_at "wp"
      refine ⟨_, hs, _, _, ht, atI_nat (j := 2) rfl, ?_⟩
      walk_at "wp"
      refine ⟨_, hgl, ?_⟩
      have no : (¬ ∃ W, PyData.list ds = pricesD W ∧ PrOk b W) → ∀ H', Same H H' → Q (.bl false) H' := fun h H' S => q _ _ S ⟨fun e => (by cases e), fun z => absurd z h⟩
      by_cases hlen : ds.length = b.goods.length
      · rw [if_neg (by rw [decide_eq_true (show (ys.length : Int) = xg.length by omega)]; decide)]
        refine ⟨⟨_, hs⟩, ?_⟩
        refine LoopR.by (walk_list (xs := ys)) (fun i σ H' => (∃ y2 y3, σ = [some (.ref a), some (.ref py), y2, y3]) ∧ Same H H' ∧ ∀ (k : Nat), k < i → ∃ ns : List Int, ds[k]? = some (PyData.list (ns.map PyData.int)) ∧ ns.length = b.lights.length) ⟨⟨_, _, rfl⟩, Same.refl _, fun k hk => absurd hk (Nat.not_lt_zero _)⟩ (fun i σ H' _ hI => hI.2.1.seq hs) (fun i v σ H0 H1 hi hI yy => ?_) (fun σ H1 hI => ?_)
        · obtain ⟨rfl, hxi⟩ := yy
          obtain ⟨⟨y2, y3, rfl⟩, S1, hall⟩ := hI
          obtain ⟨e, he, hv⟩ := ha.get hxi
          have hv := hv.same S1
          have bad : (∀ ns : List Int, e = .list (ns.map PyData.int) → ns.length ≠ b.lights.length) → ∀ H', Same H H' → Q (.bl false) H' := fun hb' => no fun ⟨W, eW, hW⟩ => by
            unfold pricesD at eW
            injection eW with eW
            rw [eW, List.getElem?_map] at he
            obtain ⟨w, hw, rfl⟩ := Option.map_eq_some_iff.mp he
            exact hb' w rfl (hW.2 w (List.mem_of_getElem? hw))
          walk_at "wp"
          refine ⟨e, hv, ?_⟩
          cases hE : isD Cl.list e with
          | false =>
            rw [if_pos (by rfl)]
            exact bad (fun ns z => by subst z; cases hE) _ S1
          | true =>
            rw [if_neg (by decide)]
            obtain ⟨es, rfl⟩ : ∃ es, e = .list es := by
              cases e with
              | list es => exact ⟨es, rfl⟩
              | _ => cases hE
            cases hv with
            | @lst pv zs _ hsv hav =>
            have hzl : zs.length = es.length := hav.length
            walk_at "wp"
            refine ⟨_, hsv, _, _, Same.tup S1 ht, atI_nat (j := 0) rfl, ?_⟩
            walk_at "wp"
            refine ⟨_, S1.seq hl, ?_⟩
            by_cases hel : es.length = b.lights.length
            · rw [if_neg (by rw [decide_eq_true (show (zs.length : Int) = xl.length by omega)]; decide)]
              refine ⟨⟨_, hsv⟩, fun D hD => ?_⟩
              refine lcNil (walk_list (xs := zs)) (fun k => !wholeD (es.getD k .none)) hD (by omega) (fun H s => s.seq hsv) (fun _ _ _ _ y => yat_same y) (fun k x H2 H3 hk s2 yy R1 R0 k1 k0 => ?_) (fun H2 acc s2 hA hacc => ?_)
              · obtain ⟨rfl, hxk⟩ := yy
                obtain ⟨u, hu, hxu⟩ := hav.get hxk
                have hg : es.getD k .none = u := by rw [List.getD_eq_getElem?_getD, hu]; rfl
                rw [hg] at k1 k0
                walk_at "wp"
                refine ⟨x, u, rfl, hxu.same s2, ?_⟩
                dsimp only
                refine ⟨_, rfl, ?_⟩
                cases hwu : wholeD u with
                | false =>
                  rw [if_pos (by rfl)]
                  exact k1 (by rw [hwu]; rfl) _ _ (Same.refl _)
                | true =>
                  rw [if_neg (by decide)]
                  exact k0 (by rw [hwu]; rfl) _ (Same.refl _)
              · refine ⟨sz100 (by decide), fun p2 hp2 => ⟨acc, SqL.of ((same_upd hp2) _ _ hA), SqL.of upd_same, ?_⟩⟩
                have S3 := S1.trans (s2.trans (same_upd (o := .lst []) hp2))
                generalize upd H2 p2 (.lst []) = H3 at S3 ⊢
                have whole : ∀ l : List PyData, (∀ k, k < l.length → wholeD (l.getD k .none) = true) → ∃ ns : List Int, l = ns.map PyData.int := fun l => by
                  induction l with
                  | nil => exact fun _ => ⟨[], rfl⟩
                  | cons z l ih =>
                    intro h
                    have h0 := h 0 (by simp)
                    obtain ⟨ns, rfl⟩ := ih fun k hk => by
                      have := h (k + 1) (by simp; omega)
                      simpa using this
                    have h0 : wholeD z = true := h0
                    cases z with
                    | int x => exact ⟨x :: ns, rfl⟩
                    | _ => cases h0
                by_cases hac : acc.length = 0
                · rw [if_neg (by rw [decide_eq_true hac]; decide)]
                  refine ⟨⟨_, _, rfl, rfl⟩, S3, fun k hk => ?_⟩
                  by_cases hki : k = i
                  · subst hki
                    obtain ⟨ns, rfl⟩ := whole es fun k hk => by
                      have := hacc.mp hac k (by omega)
                      simpa using this
                    exact ⟨ns, he, by rw [List.length_map] at hel; exact hel⟩
                  · exact hall k (by omega)
                · rw [if_pos (by rw [decide_eq_false hac]; rfl)]
                  refine bad (fun ns z => ?_) _ S3
                  cases z
                  refine absurd (hacc.mpr fun j hj => ?_) hac
                  rw [List.length_map] at hzl
                  show (!wholeD ((ns.map PyData.int).getD j .none)) = false
                  rw [List.getD_eq_getElem?_getD, List.getElem?_map, List.getElem?_eq_getElem (by omega)]
                  rfl
            · rw [if_pos (by rw [decide_eq_false (show ¬ (zs.length : Int) = xl.length by omega)]; rfl)]
              exact bad (fun ns z => by cases z; rw [List.length_map] at hel; exact hel) _ S1
        · obtain ⟨⟨y2, y3, rfl⟩, S1, hall⟩ := hI
          rw [hyl] at hall
          walk_at "wp"
          refine q _ _ S1 ⟨fun _ => ?_, fun _ => rfl⟩
          have : ∀ l : List PyData, (∀ k, k < l.length → ∃ ns : List Int, l[k]? = some (.list (ns.map PyData.int)) ∧ ns.length = b.lights.length) → ∃ W : List (List Int), l = W.map (fun w => .list (w.map PyData.int)) ∧ ∀ w ∈ W, w.length = b.lights.length := fun l => by
            induction l with
            | nil => exact fun _ => ⟨[], rfl, fun w hw => (by cases hw)⟩
            | cons z l ih =>
              intro h
              obtain ⟨ns, e, hn⟩ := h 0 (by simp)
              obtain ⟨W, eW, hW⟩ := ih fun k hk => h (k + 1) (by simp; omega)
              cases e
              refine ⟨ns :: W, by rw [eW]; rfl, fun w hw => ?_⟩
              rcases List.mem_cons.mp hw with rfl | hw
              · exact hn
              · exact hW w hw
          obtain ⟨W, eW, hW⟩ := this ds hall
          refine ⟨W, by rw [eW]; rfl, ?_, hW⟩
          rw [← hlen, eW, List.length_map]
      · rw [if_pos (by rw [decide_eq_false (show ¬ (ys.length : Int) = xg.length by omega)]; rfl)]
        refine no (fun ⟨W, eW, hW⟩ => hlen ?_) _ (Same.refl _)
        unfold pricesD at eW
        injection eW with eW
        rw [eW, List.length_map, hW.1]
end
end Bk

namespace Bk
open PySem PySem.Spec PyProof.Rows L2
local macro_rules | `(tactic| walk_at "wp") => `(tactic| try simp only [rEqNT_r, tChain3, rGtT_r, tRaise1f, rSorTL_r, rSorTR_r, tCKw, tLc2_eq, rIntS_r, rLenS_r, rIxS_r, rInS_r, rSplit_r, iStr_eq, rNewStrs, iRng3_eq, rRng3_i, tM1, tFmt, iLT, tAugS, tScT2, rSetL_r, rSetOf2_r, rSorDT_r, rSetD, tDGet2, tDGet, tDNewT, rExtend_r, rSortU_r, rSetOf_r, rSortedSet_r, rNinr_r, rNeN_r, rCatL_r, rSlT_r, rListOf_r, rIsB_b, rNotB_b, tFmtO, tJs, tOst, tCallS, WE, tRaise2, rOne_i, rSorD_r, tDNewK, Int.zero_add, tNever, tFor_eq, tLc_eq, iList, iTup, iRng1_eq, rRng1_i, iRng2_eq, rRng2_i, iEnum_eq, rEnum_r, iZip_eq, rZip_r, tSl, tPart, tNoPart, rSlL_r, rCat_r, rIn_r, rNin_r, rRepr_r, iRevR, rMin_r, rShr_i, rOdd_i, rSetL_r, gSub, rRg1_i, rRg2_i, rInr_r, tAug, ipI_ii, tLstRg, tRg1, tRg2, gTup_r, gUnl_r, rInt1_b, rInt1_i, rRep_r, tStep_r, scal, tSeq, tNext, tAsg, tRet, tRetN, tIfS, tDrop, tCB, tCons, tNil, tVar, tOp, tUn, tC, rU_i, rI_ii, rI0_ii, rEq, rNe, tTest, tB, tAnd, tOr, tNot, tAndV, tOrV, tNotV, tIf, tChain, tLst, tTup, tBM, tBM0, rAppend_r, rIxL_r, rIxT_r, rMx_ii, rMn_ii, rLnL_r, rLnT_r, rIsD_int, rIsD_bool, rIsD_list, rIsD_tuple, tCall, gName, gNil_n, gCons_c, cxK, L2.start, List.map, List.replicate, List.length_cons, List.length_nil, List.cons_append, List.nil_append, List.append_nil, List.getElem?_cons_zero, List.getElem?_cons_succ, Option.some.injEq, exists_eq_left', exists_eq_left, V.int.injEq, V.bl.injEq, V.str.injEq, V.ref.injEq, List.cons.injEq, and_true, true_and, and_self, List.set, wipe, rAll_r, rSum_r, reduceCtorEq, decide_true, decide_false, reduceIte, ite_true, ite_false, if_true, if_false, Bool.false_eq_true, Bool.not_true, Bool.not_false])
local macro_rules | `(tactic| walk_at "shaped") => `(tactic| (simp only [rGtT_r, SeqAt.shaped, PyData.canLay0, PyData.canLayAll0, PyData.depth, PyData.depthAll]; rfl))
local macro_rules | `(tactic| walk_at "lay") => `(tactic| (simp only [rGtT_r, PyData.canLay0, PyData.canLayAll0]; rfl))
local macro_rules | `(tactic| walk_at "wg") => `(tactic| try simp only [gName, gTup_r, gCons_c, gNil_n, cxK, List.set, List.cons.injEq, and_true, true_and, exists_eq_left', exists_eq_left, List.length_cons, List.length_nil])
section
variable {P : Program} {w : World} {K : PySem.W.Frag} {mg : Str → Option Value} {base : Heap}
abbrev s_is_tree : Stmt := top 65
theorem sc_is_tree : FnScope ["_law_bakery", "_law_cost", "_law_thing", "_law_lit", "_law_dark", "_law_many"] ["_law_bakery", "_law_cost", "_law_thing", "_law_lit", "_law_dark"] (defScope s_is_tree) := ⟨rfl, rfl, rfl, by decide +kernel, rfl, by decide +kernel, by decide +kernel⟩
def spTreeL (K : PySem.W.Frag) (n : Nat) : Sp := fun vs H Q _ => ∃ x b cost t d p q lit dark, vs = [x, .int cost, t, .ref p, .ref q] ∧ Th K H x (bakD b) ∧ bakB (bakD b) = true ∧ Th K H t d ∧ SqL K H p ((lit : List Int).map V.int) ∧ SqL K H q ((dark : List Int).map V.int) ∧ lit.length ≤ 50 - n ∧ dark.length ≤ 50 - n ∧ n ≤ 40 ∧ Deep n d ∧ ∀ H', Same H H' → Q (.bl (treeB b cost n d lit dark)) H'
theorem ok_is_treeS {f : Addr} {fd : FuncData} {n : Nat} {sp : Sp} (F : Fun K "_law_is_tree" "_law_is_tree" s_is_tree f fd) (B : Bi mg) (Bq : mg "str" = none) (D_are_loaf_prices_l : Def P w K mg base "_law_are_loaf_prices" 2 ["_law_bakery", "_law_thing"] (spALP K)) (D_bottom_l : Def P w K mg base "_law_bottom" 3 ["_law_bakery", "_law_prices", "_law_lit", "_law_dark"] (spBottom K)) (D_whole : Def P w K mg base "_law_whole" 1 ["_law_thing"] (spWhole K)) (D_beyond : Def P w K mg base "_law_beyond" 2 ["_law_bakery", "_law_dark", "_law_first", "_law_last"] (spBeyondL K)) (D_is_tree : Def P w K mg base "_law_is_tree" (3 + n) ["_law_bakery", "_law_cost", "_law_thing", "_law_lit", "_law_dark"] sp) (hsp : n = 0 ∨ ∃ m, n = m + 1 ∧ sp = spTreeL K m) : FnOk P w K mg base CX0 (3 + n + 1) f fd ["_law_bakery", "_law_cost", "_law_thing", "_law_lit", "_law_dark"] (spTreeL K n) := by
  refine F.ok sc_is_tree (fun vs H Q E h => ?_) (fun cdv A outer s H vs Q E hr h => ?_)
  · obtain ⟨_, _, _, _, _, _, _, _, _, rfl, _⟩ := h
    rfl
  · obtain ⟨x, b, cost, t, d, p, q', lit, dark, rfl, hx, hb, ht, hp, hq, hl50, hd50, hn40, hdeep, q⟩ := h
    refine ⟨_, (pss_cons (ps_set (i := 5) sc_is_tree.nd rfl (Or.inl rfl) (pe_callB call_lnL (by rfl) B.len (by decide +kernel) (pa_cons (pe_ix ix_tup (pv 0) pe_int (fun _ _ => rfl)) pa_nil)))
 (pss_cons (ps_if (PW.pt (pw_or (pt_not (pt_val (pe_callB (call_isD .tuple) (by rfl) B.isinstance (by decide +kernel) (pa_cons (pv 2) (pa_cons (pe_bltn (v := .ty "tuple") (by rfl) B.tuple (by decide +kernel) rfl) pa_nil))))) (pw_or (pt_cmpR (op_eqNilT hr.units) (pv 2) (pe_tup pa_nil) (nomark _)) (pw_or1 (pt_not (pt_val (pe_callB (call_isD .str) (by rfl) B.isinstance (by decide +kernel) (pa_cons (pe_ix ix_tup (pv 2) pe_int (fun _ _ => rfl)) (pa_cons (pe_bltn (v := .ty "str") (by rfl) Bq (by decide +kernel) rfl) pa_nil))))))))) (pss_one (ps_ret pe_bl)) pss_nil)
 (pss_cons (ps_if (PW.pt (pw_and (pt_cmpR op_eq (pe_ix ix_tup (pv 2) pe_int (fun _ _ => rfl)) pe_str (nomark _)) (pw_and1 (pt_cmpR op_eq (pe_callB call_lnT (by rfl) B.len (by decide +kernel) (pa_cons (pv 2) pa_nil)) pe_int (nomark _))))) (pss_one (ps_ret (pe_and (pe_callD D_are_loaf_prices_l hr (by rfl) (pa_cons (pv 0) (pa_cons (pe_ix ix_tup (pv 2) pe_int (fun _ _ => rfl)) pa_nil))) (pe_one (pe_cmpR op_ge (pe_callD D_bottom_l hr (by rfl) (pa_cons (pv 0) (pa_cons (pe_ix ix_tup (pv 2) pe_int (fun _ _ => rfl)) (pa_cons (pv 3) (pa_cons (pv 4) pa_nil))))) (pv 1) (nomark _)))))) pss_nil)
 (pss_cons (ps_if (PW.pt (pw_and (pt_cmpR op_eq (pe_ix ix_tup (pv 2) pe_int (fun _ _ => rfl)) pe_str (nomark _)) (pw_and1 (pt_cmpR op_eq (pe_callB call_lnT (by rfl) B.len (by decide +kernel) (pa_cons (pv 2) pa_nil)) pe_int (nomark _))))) (pss_cons (ps_if (PW.pt (pw_or (pt_not (pt_val (pe_callD D_whole hr (by rfl) (pa_cons (pe_ix ix_tup (pv 2) pe_int (fun _ _ => rfl)) pa_nil)))) (pw_or (pt_not (pt_val (pe_callD D_whole hr (by rfl) (pa_cons (pe_ix ix_tup (pv 2) pe_int (fun _ _ => rfl)) pa_nil)))) (pw_or1 (pt_not (pt_chain3 op_le op_le op_lt pe_int (pe_ix ix_tup (pv 2) pe_int (fun _ _ => rfl)) (pe_ix ix_tup (pv 2) pe_int (fun _ _ => rfl)) (pv 5))))))) (pss_one (ps_ret pe_bl)) pss_nil)
 (pss_one (ps_ret (pe_callD D_beyond hr (by rfl) (pa_cons (pv 0) (pa_cons (pv 4) (pa_cons (pe_ix ix_tup (pv 2) pe_int (fun _ _ => rfl)) (pa_cons (pe_ix ix_tup (pv 2) pe_int (fun _ _ => rfl)) pa_nil)))))))) pss_nil)
 (pss_cons (ps_if (PW.pt (pw_or (pt_cmpR op_ne (pe_ix ix_tup (pv 2) pe_int (fun _ _ => rfl)) pe_str (nomark _)) (pw_or (pt_cmpR op_ne (pe_callB call_lnT (by rfl) B.len (by decide +kernel) (pa_cons (pv 2) pa_nil)) pe_int (nomark _)) (pw_or (pt_not (pt_val (pe_callD D_whole hr (by rfl) (pa_cons (pe_ix ix_tup (pv 2) pe_int (fun _ _ => rfl)) pa_nil)))) (pw_or1 (pt_not (pt_chain op_le op_lt pe_int (pe_ix ix_tup (pv 2) pe_int (fun _ _ => rfl)) (pv 5)))))))) (pss_one (ps_ret pe_bl)) pss_nil)
 (pss_cons (ps_if (pt_cmpR op_in_seq (pe_ix ix_tup (pv 2) pe_int (fun _ _ => rfl)) (pe_op op_catL (pv 3) (pv 4)) (by rfl)) (pss_one (ps_ret pe_bl)) pss_nil)
 (pss_cons (ps_if (pt_not (pt_val (pe_callD D_is_tree hr (by rfl) (pa_cons (pv 0) (pa_cons (pv 1) (pa_cons (pe_ix ix_tup (pv 2) pe_int (fun _ _ => rfl)) (pa_cons (pv 3) (pa_cons (pe_op op_catL (pv 4) (pe_lst (pa_cons (pe_ix ix_tup (pv 2) pe_int (fun _ _ => rfl)) pa_nil))) pa_nil)))))))) (pss_one (ps_ret pe_bl)) pss_nil)
 (pss_one (ps_ret (pe_callD D_is_tree hr (by rfl) (pa_cons (pv 0) (pa_cons (pv 1) (pa_cons (pe_ix ix_tup (pv 2) pe_int (fun _ _ => rfl)) (pa_cons (pe_op op_catL (pv 3) (pe_lst (pa_cons (pe_ix ix_tup (pv 2) pe_int (fun _ _ => rfl)) pa_nil))) (pa_cons (pv 4) pa_nil))))))))))))))), ?_⟩
    obtain ⟨⟨c1, c2⟩, c3, _, ⟨c5, c6⟩, c7⟩ := bak_parts hb
    have hx0 := hx
    obtain ⟨a, l, v2, ga, xl, xg, rfl, hta, hl, hla, h2, hgl, hga⟩ := Th.bak hx
    have lenL : xl.length = b.lights.length := by rw [hla.length, List.length_map]
    refine seq1 (fun σ' H' => σ' = [some (.ref a), some (.int cost), some t, some (.ref p), some (.ref q'), some (.int (b.lights.length : Int))] ∧ H' = H) (fun σ1 H1 hm => ?_) (fun N hN => ?_)
    rotate_left
    · walk_at "wp"
      refine ⟨_, _, hta, atI_nat (j := 0) rfl, ?_⟩
      walk_at "wp"
      refine ⟨_, hl, ?_⟩
      rw [lenL]
      exact hN _ _ ⟨rfl, rfl⟩
    obtain ⟨rfl, rfl⟩ := hm
    refine seq1 (fun σ' H' => σ' = [some (.ref a), some (.int cost), some t, some (.ref p), some (.ref q'), some (.int (b.lights.length : Int))] ∧ Same H1 H' ∧ ∃ at1 z r vr, t = .ref at1 ∧ d = .tuple (.str z :: r) ∧ SqT K H' at1 (.str z :: vr) ∧ ThAll K H' vr r) (fun σ1 H2 hm => ?_) (fun N hN => ?_)
    rotate_left
    · walk_at "wp"
      have no : (∀ z r, d ≠ .tuple (.str z :: r)) → ∀ H', Same H1 H' → Q (.bl false) H' := fun hd H' S => by
        have hh : ∀ w m, headB w m d = false := fun w m => by
          unfold headB
          split
          · rename_i z r
            exact absurd rfl (hd z r)
          · rfl
        have e : treeB b cost n d lit dark = false := by
          rw [treeB_leaf (hh _ _)]
          unfold leafB
          rw [hh, hh, if_neg (by decide), if_neg (by decide)]
        rw [← e]
        exact q H' S
      refine ⟨d, ht, ?_⟩
      cases hT : isD Cl.tuple d with
      | false =>
        rw [if_pos (by rfl)]
        exact no (fun z r e => by subst e; cases hT) _ (Same.refl _)
      | true =>
        rw [if_neg (by decide)]
        obtain ⟨ds, rfl⟩ : ∃ ds, d = .tuple ds := by
          cases d with
          | tuple ds => exact ⟨ds, rfl⟩
          | _ => cases hT
        cases ht with
        | @tup at1 xs _ hts ha =>
        refine ⟨sz100 (by decide), fun p1 hp1 => ?_⟩
        have S2 := same_upd (o := .tup []) hp1
        have E2 : upd H1 p1 (.tup []) p1 = some (.tup []) := upd_same
        generalize upd H1 p1 (.tup []) = H2 at S2 E2 ⊢
        walk_at "wp"
        refine ⟨_, Same.tup S2 hts, SqT.of E2, ?_⟩
        cases ha with
        | nil =>
          rw [if_pos (by rfl)]
          exact no (fun z r e => by cases e) _ S2
        | @cons v0 vr d0 r h0 hr =>
          rw [if_neg (by rw [decide_eq_true_eq, List.length_cons]; omega)]
          refine ⟨_, _, Same.tup S2 hts, atI_nat (j := 0) rfl, v0, d0, rfl, h0.same S2, _, rfl, ?_⟩
          cases hZ : isD Cl.str d0 with
          | false =>
            rw [if_pos (by rfl)]
            exact no (fun z r e => by cases e; cases hZ) _ S2
          | true =>
            rw [if_neg (by decide)]
            obtain ⟨z, rfl⟩ : ∃ z, d0 = .str z := by
              cases d0 with
              | str z => exact ⟨z, rfl⟩
              | _ => cases hZ
            cases h0
            exact hN _ _ ⟨rfl, S2, at1, z, r, vr, rfl, rfl, Same.tup S2 hts, hr.same S2⟩
    obtain ⟨rfl, S2, at1, z, r, vr, rfl, rfl, hts, har⟩ := hm
    have hvl : vr.length = r.length := har.length
    have hx2 := hx0.same S2
    have hh : ∀ (w : Str) (m : Nat), headB w m (.tuple (.str z :: r)) = (decide (r.length + 1 = m) && decide (z = w)) := fun w m => rfl
    refine seq1 (fun σ' H' => σ' = [some (.ref a), some (.int cost), some (.ref at1), some (.ref p), some (.ref q'), some (.int (b.lights.length : Int))] ∧ H' = H2 ∧ headB "prices" 2 (.tuple (.str z :: r)) = false) (fun σ1 H3 hm => ?_) (fun N hN => ?_)
    rotate_left
    · walk_at "wp"
      refine ⟨_, _, hts, atI_nat (j := 0) rfl, rfl, ?_⟩
      by_cases hz : z = "prices"
      · rw [if_pos (by rw [decide_eq_true (show V.str z = V.str (Str.ofString "prices") by rw [hz])])]
        refine ⟨_, hts, ?_⟩
        rw [List.length_cons]
        by_cases hl2 : r.length + 1 = 2
        · rw [if_pos (by rw [decide_eq_true_eq]; omega)]
          obtain ⟨z1, rfl⟩ : ∃ z1, r = [z1] := by
            match r, hl2 with
            | [z1], _ => exact ⟨z1, rfl⟩
          cases har with
          | @cons v1 _ _ _ h1 ha =>
          cases ha
          subst hz
          have e : treeB b cost n (.tuple [.str "prices", z1]) lit dark = prB b cost z1 lit dark := by
            rw [treeB_leaf (by rfl)]
            rfl
          rw [e] at q
          refine ⟨_, _, hts, atI_nat (j := 1) rfl, ?_⟩
          refine ⟨_, b, v1, z1, rfl, hx2, hb, h1, fun H4 rr S4 hr => ?_⟩
          walk_at "wp"
          have S14 := S2.trans S4
          cases rr with
          | false =>
            rw [if_neg (by decide)]
            have e : prB b cost z1 lit dark = false := by
              rw [← Bool.not_eq_true, prB_iff]
              rintro ⟨W, h3, h4, _⟩
              cases hr.mpr ⟨W, h3, h4⟩
            rw [e] at q
            exact q _ S14
          | true =>
            rw [if_pos rfl]
            obtain ⟨W, rfl, hW⟩ := hr.mp rfl
            refine ⟨_, _, Same.tup S4 hts, atI_nat (j := 1) rfl, ?_⟩
            refine ⟨_, b, v1, W, p, q', lit, dark, rfl, hx0.same S14, hb, h1.same S4, hW, S14.seq hp, S14.seq hq, fun H5 S5 => ?_⟩
            walk_at "wp"
            have e : prB b cost (pricesD W) lit dark = decide (cost ≤ bottomV b W lit dark) := by
              rw [Bool.eq_iff_iff, prB_iff, decide_eq_true_iff]
              constructor
              · rintro ⟨W', h3, h4, h5⟩
                rw [pricesD_inj h3]
                exact h5
              · exact fun h5 => ⟨W, rfl, hW, h5⟩
            rw [e] at q
            exact q _ (S14.trans S5)
        · rw [if_neg (by rw [decide_eq_true_eq]; omega)]
          exact hN _ _ ⟨rfl, rfl, by rw [hh, decide_eq_false hl2, Bool.false_and]⟩
      · rw [if_neg (by rw [decide_eq_true_eq]; intro e; injection e with e; exact hz e)]
        exact hN _ _ ⟨rfl, rfl, by rw [hh, decide_eq_false hz, Bool.and_false]⟩
    obtain ⟨rfl, rfl, hnp⟩ := hm
    refine seq1 (fun σ' H' => σ' = [some (.ref a), some (.int cost), some (.ref at1), some (.ref p), some (.ref q'), some (.int (b.lights.length : Int))] ∧ H' = H3 ∧ headB "stretch" 3 (.tuple (.str z :: r)) = false) (fun σ1 H4 hm => ?_) (fun N hN => ?_)
    rotate_left
    · walk_at "wp"
      refine ⟨_, _, hts, atI_nat (j := 0) rfl, rfl, ?_⟩
      by_cases hz : z = "stretch"
      · rw [if_pos (by rw [decide_eq_true (show V.str z = V.str (Str.ofString "stretch") by rw [hz])])]
        refine ⟨_, hts, ?_⟩
        rw [List.length_cons]
        by_cases hl2 : r.length + 1 = 3
        · rw [if_pos (by rw [decide_eq_true_eq]; omega)]
          obtain ⟨z1, z2, rfl⟩ : ∃ z1 z2, r = [z1, z2] := by
            match r, hl2 with
            | [z1, z2], _ => exact ⟨z1, z2, rfl⟩
          cases har with
          | @cons v1 _ _ _ h1 ha => cases ha with
          | @cons v2 _ _ _ h2 ha =>
          cases ha
          subst hz
          have e : treeB b cost n (.tuple [.str "stretch", z1, z2]) lit dark = stB b dark z1 z2 := by
            rw [treeB_leaf (by rfl)]
            rfl
          rw [e] at q
          have bad : strB b.lights.length (.tuple [z1, z2]) = false → Q (.bl false) H3 := fun h => by
            have e : stB b dark z1 z2 = false := by unfold stB; rw [h, Bool.false_and]
            rw [e] at q
            exact q _ S2
          refine ⟨_, _, hts, atI_nat (j := 1) rfl, v1, z1, rfl, h1, ?_⟩
          walk_at "wp"
          cases hw1 : wholeD z1 with
          | false =>
            rw [if_pos (by rfl)]
            refine bad ?_
            cases z1 with
            | int i => cases hw1
            | _ => rfl
          | true =>
            rw [if_neg (by decide)]
            obtain ⟨i, rfl⟩ : ∃ i, z1 = .int i := by
              cases z1 with
              | int i => exact ⟨i, rfl⟩
              | _ => cases hw1
            cases h1
            refine ⟨_, _, hts, atI_nat (j := 2) rfl, v2, z2, rfl, h2, ?_⟩
            walk_at "wp"
            cases hw2 : wholeD z2 with
            | false =>
              rw [if_pos (by rfl)]
              refine bad ?_
              have : plB b.lights.length z2 = false := by
                cases z2 with
                | int i => cases hw2
                | _ => rfl
              simp only [strB, this, Bool.false_and, Bool.and_false]
            | true =>
              rw [if_neg (by decide)]
              obtain ⟨j, rfl⟩ : ∃ j, z2 = .int j := by
                cases z2 with
                | int j => exact ⟨j, rfl⟩
                | _ => cases hw2
              cases h2
              have bad2 : ¬ (0 ≤ i ∧ i ≤ j ∧ j < (b.lights.length : Int)) → Q (.bl false) H3 := fun h => bad (by
                rw [← Bool.not_eq_true]
                simp only [strB, plB, leD, Bool.and_eq_true, decide_eq_true_eq]
                omega)
              refine ⟨_, _, hts, atI_nat (j := 1) rfl, ?_⟩
              walk_at "wp"
              refine ite2 (fun g1 => ?_) (fun g1 => bad2 fun z => g1 (decide_eq_true z.1))
              refine ⟨_, _, hts, atI_nat (j := 2) rfl, ?_⟩
              walk_at "wp"
              refine ite2 (fun g2 => ?_) (fun g2 => bad2 fun z => g2 (decide_eq_true z.2.1))
              have g1 := of_decide_eq_true g1
              have g2 := of_decide_eq_true g2
              by_cases g3 : j < (b.lights.length : Int)
              · rw [if_neg (by rw [decide_eq_true g3]; decide)]
                have hstr : strB b.lights.length (.tuple [.int i, .int j]) = true := by
                  simp only [strB, plB, leD, Bool.and_eq_true, decide_eq_true_eq]
                  omega
                have e : stB b dark (.int i) (.int j) = overD b dark i.toNat j.toNat := by unfold stB; rw [hstr, Bool.true_and]; rfl
                rw [e] at q
                refine ⟨_, _, hts, atI_nat (j := 1) rfl, _, _, hts, atI_nat (j := 2) rfl, ?_⟩
                refine ⟨_, b, q', dark, i.toNat, j.toNat, ?_, hx2, hb, S2.seq hq, by omega, by omega, fun H5 S5 => q _ (S2.trans S5)⟩
                rw [show ((i.toNat : Nat) : Int) = i by omega, show ((j.toNat : Nat) : Int) = j by omega]
              · rw [if_pos (by rw [decide_eq_false g3]; rfl)]
                exact bad2 fun z => g3 z.2.2
        · rw [if_neg (by rw [decide_eq_true_eq]; omega)]
          exact hN _ _ ⟨rfl, rfl, by rw [hh, decide_eq_false hl2, Bool.false_and]⟩
      · rw [if_neg (by rw [decide_eq_true_eq]; intro e; injection e with e; exact hz e)]
        exact hN _ _ ⟨rfl, rfl, by rw [hh, decide_eq_false hz, Bool.and_false]⟩
    obtain ⟨rfl, rfl, hns⟩ := hm
    have eleaf : leafB b cost (.tuple (.str z :: r)) lit dark = false := by
      unfold leafB
      rw [hns, hnp, if_neg (by decide), if_neg (by decide)]
    have nosp : headB "split" 4 (.tuple (.str z :: r)) = false → Q (.bl false) H4 := fun h => by
      rw [treeB_leaf h, eleaf] at q
      exact q _ S2
    refine seq1 (fun σ' H' => σ' = [some (.ref a), some (.int cost), some (.ref at1), some (.ref p), some (.ref q'), some (.int (b.lights.length : Int))] ∧ H' = H4 ∧ z = "split" ∧ ∃ i c e v2 v3, r = [.int i, c, e] ∧ vr = [.int i, v2, v3] ∧ 0 ≤ i ∧ i < (b.lights.length : Int)) (fun σ1 H5 hm => ?_) (fun N hN => ?_)
    rotate_left
    · walk_at "wp"
      refine ⟨_, _, hts, atI_nat (j := 0) rfl, rfl, ?_⟩
      by_cases hz : z = "split"
      · rw [if_neg (by rw [decide_eq_true (show V.str z = V.str (Str.ofString "split") by rw [hz])]; decide)]
        refine ⟨_, hts, ?_⟩
        rw [List.length_cons]
        by_cases hl2 : r.length + 1 = 4
        · rw [if_neg (by rw [decide_eq_true (show ((vr.length + 1 : Nat) : Int) = 4 by omega)]; decide)]
          obtain ⟨z1, z2, z3, rfl⟩ : ∃ z1 z2 z3, r = [z1, z2, z3] := by
            match r, hl2 with
            | [z1, z2, z3], _ => exact ⟨z1, z2, z3, rfl⟩
          cases har with
          | @cons v1 _ _ _ h1 ha => cases ha with
          | @cons v2 _ _ _ h2 ha => cases ha with
          | @cons v3 _ _ _ h3 ha =>
          cases ha
          subst hz
          have nof : freeB b.lights.length lit dark z1 = false → Q (.bl false) H4 := fun h => by
            have e : treeB b cost n (.tuple [.str "split", z1, z2, z3]) lit dark = false := by
              cases n with
              | zero => exact eleaf
              | succ n => rw [treeB_split, h, Bool.false_and]
            rw [e] at q
            exact q _ S2
          refine ⟨_, _, hts, atI_nat (j := 1) rfl, v1, z1, rfl, h1, ?_⟩
          walk_at "wp"
          cases hw1 : wholeD z1 with
          | false =>
            rw [if_pos (by rfl)]
            refine nof ?_
            cases z1 with
            | int i => cases hw1
            | _ => rfl
          | true =>
            rw [if_neg (by decide)]
            obtain ⟨i, rfl⟩ : ∃ i, z1 = .int i := by
              cases z1 with
              | int i => exact ⟨i, rfl⟩
              | _ => cases hw1
            cases h1
            have nof2 : ¬ (0 ≤ i ∧ i < (b.lights.length : Int)) → Q (.bl false) H4 := fun h => nof (by
              rw [← Bool.not_eq_true]
              simp only [freeB, Bool.and_eq_true, decide_eq_true_eq]
              omega)
            refine ⟨_, _, hts, atI_nat (j := 1) rfl, ?_⟩
            walk_at "wp"
            by_cases i0 : 0 ≤ i
            · rw [if_pos (decide_eq_true i0)]
              by_cases i1 : i < (b.lights.length : Int)
              · rw [if_neg (by rw [decide_eq_true i1]; decide)]
                exact hN _ _ ⟨rfl, rfl, rfl, i, z2, z3, v2, v3, rfl, rfl, i0, i1⟩
              · rw [if_pos (by rw [decide_eq_false i1]; rfl)]
                exact nof2 fun z => i1 z.2
            · rw [if_neg (by rw [decide_eq_true_eq]; exact i0)]
              exact nof2 fun z => i0 z.1
        · rw [if_pos (by rw [decide_eq_false (show ¬ ((vr.length + 1 : Nat) : Int) = 4 by omega)]; rfl)]
          exact nosp (by rw [hh, decide_eq_false hl2, Bool.false_and])
      · rw [if_pos (by rw [decide_eq_false (show ¬ V.str z = V.str (Str.ofString "split") from fun e => by injection e with e; exact hz e)]; rfl)]
        exact nosp (by rw [hh, decide_eq_false hz, Bool.and_false])
    obtain ⟨rfl, rfl, rfl, i, c, e, v2, v3, rfl, rfl, i0, i1⟩ := hm
    cases har with
    | @cons _ _ _ _ h1 ha => cases ha with
    | @cons _ _ _ _ h2 ha => cases ha with
    | @cons _ _ _ _ h3 ha =>
    have hspl : headB "split" 4 (.tuple [.str "split", .int i, c, e]) = true := rfl
    rcases hsp with rfl | ⟨m, rfl, rfl⟩
    · exact absurd hspl (by rw [show headB "split" 4 (.tuple [.str "split", .int i, c, e]) = false from hdeep]; decide)
    have hdd := hdeep _ _ _ _ rfl hspl
    rw [treeB_split] at q
    have hpS := S2.seq hp
    have hqS := S2.seq hq
    walk_at "wp"
    refine ⟨_, _, hts, atI_nat (j := 1) rfl, _, _, hpS, hqS, sz100 (by simp; omega), fun p1 hp1 => ?_⟩
    rw [← List.map_append]
    have U1 := same_upd (o := .lst ((lit ++ dark).map V.int)) hp1
    have F1 : upd H5 p1 (.lst ((lit ++ dark).map V.int)) p1 = some (.lst ((lit ++ dark).map V.int)) := upd_same
    generalize upd H5 p1 (.lst ((lit ++ dark).map V.int)) = H6 at U1 F1 ⊢
    refine ⟨_, .inl (SqL.of F1), rfl, flat_ints _, ?_⟩
    rw [inV_ints]
    have hfree : freeB b.lights.length lit dark (.int i) = !decide (i ∈ lit ++ dark) := by
      simp only [freeB, decide_eq_true i0, decide_eq_true i1, Bool.true_and, List.mem_append, Bool.decide_or, Bool.not_or]
    rw [hfree] at q
    have S6 := S2.trans U1
    by_cases hin : i ∈ lit ++ dark
    · rw [if_pos (decide_eq_true hin)]
      rw [decide_eq_true hin] at q
      exact q _ S6
    · rw [if_neg (by rw [decide_eq_true_eq]; exact hin)]
      rw [decide_eq_false hin] at q
      have q : ∀ H', Same H1 H' → Q (.bl (treeB b cost m c lit (dark ++ [i]) && treeB b cost m e (lit ++ [i]) dark)) H' := q
      refine ⟨_, _, Same.tup U1 hts, atI_nat (j := 2) rfl, _, _, Same.tup U1 hts, atI_nat (j := 1) rfl, sz100 (by decide), fun p2 hp2 => ?_⟩
      have S7 := S6.trans (same_upd (o := .lst [V.int i]) hp2)
      have U7 := U1.trans (same_upd (o := .lst [V.int i]) hp2)
      have F7 : upd H6 p2 (.lst [V.int i]) p2 = some (.lst [V.int i]) := upd_same
      generalize upd H6 p2 (.lst [V.int i]) = H7 at S7 U7 F7 ⊢
      refine ⟨_, _, S7.seq hq, SqL.of F7, sz100 (by simp; omega), fun p3 hp3 => ?_⟩
      have U8 := same_upd (o := .lst (dark.map V.int ++ [V.int i])) hp3
      have F8 : upd H7 p3 (.lst (dark.map V.int ++ [V.int i])) p3 = some (.lst ((dark ++ [i]).map V.int)) := by rw [upd_same, List.map_append]; rfl
      generalize upd H7 p3 (.lst (dark.map V.int ++ [V.int i])) = H8 at U8 F8 ⊢
      have S8 := S7.trans U8
      have U78 := U7.trans U8
      refine ⟨_, b, cost, v2, c, p, p3, lit, dark ++ [i], rfl, hx0.same S8, hb, h2.same U78, S8.seq hp, SqL.of F8, by omega, by rw [List.length_append, List.length_singleton]; omega, by omega, hdd.1, fun H9 S9 => ?_⟩
      walk_at "wp"
      have S9' := S8.trans S9
      have U9 := U78.trans S9
      cases hc : treeB b cost m c lit (dark ++ [i]) with
      | false =>
        rw [if_pos (by rfl)]
        rw [hc, Bool.false_and] at q
        exact q _ S9'
      | true =>
        rw [if_neg (by decide)]
        rw [hc, Bool.true_and] at q
        refine ⟨_, _, Same.tup U9 hts, atI_nat (j := 3) rfl, _, _, Same.tup U9 hts, atI_nat (j := 1) rfl, sz100 (by decide), fun p4 hp4 => ?_⟩
        have SA := S9'.trans (same_upd (o := .lst [V.int i]) hp4)
        have UA := U9.trans (same_upd (o := .lst [V.int i]) hp4)
        have FA : upd H9 p4 (.lst [V.int i]) p4 = some (.lst [V.int i]) := upd_same
        generalize upd H9 p4 (.lst [V.int i]) = HA at SA UA FA ⊢
        refine ⟨_, _, SA.seq hp, SqL.of FA, sz100 (by simp; omega), fun p5 hp5 => ?_⟩
        have UB := same_upd (o := .lst (lit.map V.int ++ [V.int i])) hp5
        have FB : upd HA p5 (.lst (lit.map V.int ++ [V.int i])) p5 = some (.lst ((lit ++ [i]).map V.int)) := by rw [upd_same, List.map_append]; rfl
        generalize upd HA p5 (.lst (lit.map V.int ++ [V.int i])) = HB at UB FB ⊢
        have SB := SA.trans UB
        have UB2 := UA.trans UB
        exact ⟨_, b, cost, v3, e, p5, q', lit ++ [i], dark, rfl, hx0.same SB, hb, h3.same UB2, SqL.of FB, SB.seq hq, by rw [List.length_append, List.length_singleton]; omega, by omega, by omega, hdd.2, fun HC SC => q _ (SB.trans SC)⟩
theorem ok_is_treeK {f : Addr} {fd : FuncData} (F : Fun K "_law_is_tree" "_law_is_tree" s_is_tree f fd) (B : Bi mg) (Bq : mg "str" = none) (D_are_loaf_prices_l : Def P w K mg base "_law_are_loaf_prices" 2 ["_law_bakery", "_law_thing"] (spALP K)) (D_bottom_l : Def P w K mg base "_law_bottom" 3 ["_law_bakery", "_law_prices", "_law_lit", "_law_dark"] (spBottom K)) (D_whole : Def P w K mg base "_law_whole" 1 ["_law_thing"] (spWhole K)) (D_beyond : Def P w K mg base "_law_beyond" 2 ["_law_bakery", "_law_dark", "_law_first", "_law_last"] (spBeyondL K)) (hm : mg "_law_is_tree" = some (.ref f)) (hk : PySem.W.keepIn K (.ref f) = true) (hb : Binds K fd ["_law_bakery", "_law_cost", "_law_thing", "_law_lit", "_law_dark"] []) : ∀ n : Nat, FnOk P w K mg base CX0 (3 + n + 1) f fd ["_law_bakery", "_law_cost", "_law_thing", "_law_lit", "_law_dark"] (spTreeL K n)
  | 0 => ok_is_treeS F B Bq D_are_loaf_prices_l D_bottom_l D_whole D_beyond (sp := fun _ _ _ _ => False) ⟨_, _, hm, hk, hb, ⟨fun _ _ _ _ h => h.elim, fun _ _ _ _ _ _ _ _ _ _ _ _ _ h => h.elim⟩⟩ (.inl rfl)
  | n + 1 => ok_is_treeS F B Bq D_are_loaf_prices_l D_bottom_l D_whole D_beyond ⟨_, _, hm, hk, hb, ok_is_treeK F B Bq D_are_loaf_prices_l D_bottom_l D_whole D_beyond hm hk hb n⟩ (.inr ⟨n, rfl, rfl⟩)
theorem ok_is_tree54 {f : Addr} {fd : FuncData} (F : Fun K "_law_is_tree" "_law_is_tree" s_is_tree f fd) (B : Bi mg) (Bq : mg "str" = none) (D_are_loaf_prices_l : Def P w K mg base "_law_are_loaf_prices" 2 ["_law_bakery", "_law_thing"] (spALP K)) (D_bottom_l : Def P w K mg base "_law_bottom" 3 ["_law_bakery", "_law_prices", "_law_lit", "_law_dark"] (spBottom K)) (D_whole : Def P w K mg base "_law_whole" 1 ["_law_thing"] (spWhole K)) (D_beyond : Def P w K mg base "_law_beyond" 2 ["_law_bakery", "_law_dark", "_law_first", "_law_last"] (spBeyondL K)) (hm : mg "_law_is_tree" = some (.ref f)) (hk : PySem.W.keepIn K (.ref f) = true) (hb : Binds K fd ["_law_bakery", "_law_cost", "_law_thing", "_law_lit", "_law_dark"] []) : FnOk P w K mg base CX0 24 f fd ["_law_bakery", "_law_cost", "_law_thing", "_law_lit", "_law_dark"] (spTreeL K 20) := ok_is_treeK F B Bq D_are_loaf_prices_l D_bottom_l D_whole D_beyond hm hk hb 20
end
end Bk

namespace Bk
open PySem PySem.Spec PyProof.Rows L2
local macro_rules | `(tactic| walk_at "wp") => `(tactic| try simp only [rEqNT_r, tChain3, rGtT_r, tRaise1f, rSorTL_r, rSorTR_r, tCKw, tLc2_eq, rIntS_r, rLenS_r, rIxS_r, rInS_r, rSplit_r, iStr_eq, rNewStrs, iRng3_eq, rRng3_i, tM1, tFmt, iLT, tAugS, tScT2, rSetL_r, rSetOf2_r, rSorDT_r, rSetD, tDGet2, tDGet, tDNewT, rExtend_r, rSortU_r, rSetOf_r, rSortedSet_r, rNinr_r, rNeN_r, rCatL_r, rSlT_r, rListOf_r, rIsB_b, rNotB_b, tFmtO, tJs, tOst, tCallS, WE, tRaise2, rOne_i, rSorD_r, tDNewK, Int.zero_add, tNever, tFor_eq, tLc_eq, iList, iTup, iRng1_eq, rRng1_i, iRng2_eq, rRng2_i, iEnum_eq, rEnum_r, iZip_eq, rZip_r, tSl, tPart, tNoPart, rSlL_r, rCat_r, rIn_r, rNin_r, rRepr_r, iRevR, rMin_r, rShr_i, rOdd_i, rSetL_r, gSub, rRg1_i, rRg2_i, rInr_r, tAug, ipI_ii, tLstRg, tRg1, tRg2, gTup_r, gUnl_r, rInt1_b, rInt1_i, rRep_r, tStep_r, scal, tSeq, tNext, tAsg, tRet, tRetN, tIfS, tDrop, tCB, tCons, tNil, tVar, tOp, tUn, tC, rU_i, rI_ii, rI0_ii, rEq, rNe, tTest, tB, tAnd, tOr, tNot, tAndV, tOrV, tNotV, tIf, tChain, tLst, tTup, tBM, tBM0, rAppend_r, rIxL_r, rIxT_r, rMx_ii, rMn_ii, rLnL_r, rLnT_r, rIsD_int, rIsD_bool, rIsD_list, rIsD_tuple, tCall, gName, gNil_n, gCons_c, cxK, L2.start, List.map, List.replicate, List.length_cons, List.length_nil, List.cons_append, List.nil_append, List.append_nil, List.getElem?_cons_zero, List.getElem?_cons_succ, Option.some.injEq, exists_eq_left', exists_eq_left, V.int.injEq, V.bl.injEq, V.str.injEq, V.ref.injEq, List.cons.injEq, and_true, true_and, and_self, List.set, wipe, rAll_r, rSum_r, reduceCtorEq, decide_true, decide_false, reduceIte, ite_true, ite_false, if_true, if_false, Bool.false_eq_true, Bool.not_true, Bool.not_false])
local macro_rules | `(tactic| walk_at "shaped") => `(tactic| (simp only [rGtT_r, SeqAt.shaped, PyData.canLay0, PyData.canLayAll0, PyData.depth, PyData.depthAll]; rfl))
local macro_rules | `(tactic| walk_at "lay") => `(tactic| (simp only [rGtT_r, PyData.canLay0, PyData.canLayAll0]; rfl))
local macro_rules | `(tactic| walk_at "wg") => `(tactic| try simp only [gName, gTup_r, gCons_c, gNil_n, cxK, List.set, List.cons.injEq, and_true, true_and, exists_eq_left', exists_eq_left, List.length_cons, List.length_nil])
section
variable {P : Program} {w : World} {K : PySem.W.Frag} {mg : Str → Option Value} {base : Heap}
abbrev s_prices_drawn : Stmt := top 66
theorem sc_prices_drawn : FnScope ["_law_bakery", "_law_digits", "_law_found", "_law_number", "_law_good", "_law_worths", "_law_given", "_law_row", "_law_digit"] ["_law_bakery", "_law_digits"] (defScope s_prices_drawn) := ⟨rfl, rfl, rfl, by decide +kernel, rfl, by decide +kernel, by decide +kernel⟩
/-- prices that are not too great -/
def PrS (W : List (List Int)) : Prop := ∀ w ∈ W, ∀ z ∈ w, z.natAbs < 10 ^ 11
/-- digits of a draw -/
def DigS (fs : List Int) : Prop := fs ≠ [] ∧ fs.length ≤ 20 ∧ ∀ f ∈ fs, 0 ≤ f ∧ f ≤ 200
def wListD (w : List Int) : PyData := .list (w.map PyData.int)
def spPrDr (K : PySem.W.Frag) : Sp := fun vs H Q _ => ∃ x b pd fs, vs = [x, .ref pd] ∧ Th K H x (bakD b) ∧ bakB (bakD b) = true ∧ SqL K H pd ((fs : List Int).map V.int) ∧ DigS fs ∧ ∀ H' v W, Same H H' → Th K H' v (pricesD W) → PrOk b W → PrS W → Q v H'
theorem ok_prices_drawn {f : Addr} {fd : FuncData} (F : Fun K "_law_prices_drawn" "_law_prices_drawn" s_prices_drawn f fd) (B : Bi mg) : FnOk P w K mg base CX0 1 f fd ["_law_bakery", "_law_digits"] (spPrDr K) := by
  refine F.ok sc_prices_drawn (fun vs H Q E h => ?_) (fun cdv A outer s H vs Q E hr h => ?_)
  · obtain ⟨_, _, _, _, rfl, _⟩ := h
    rfl
  · obtain ⟨x, b, pd, fs, rfl, hx, hb, hd, ⟨fne, fl20, fbd⟩, q⟩ := h
    refine ⟨_, (pss_cons (ps_set (i := 2) sc_prices_drawn.nd rfl (Or.inl rfl) (pe_lst pa_nil))
 (pss_cons (ps_for PassesOwn.never rfl (pi_enum (by rfl) B.enumerate (pa_cons (pe_ix ix_tup (pv 0) pe_int (fun _ _ => rfl)) pa_nil)) (pg_tup rfl (pgs_cons (pg_name (i := 3) sc_prices_drawn.nd rfl (Or.inl rfl)) (pgs_cons (pg_name (i := 4) sc_prices_drawn.nd rfl (Or.inl rfl)) pgs_nil))) (pss_cons (ps_set (i := 5) sc_prices_drawn.nd rfl (Or.inl rfl) (pe_lst pa_nil))
 (pss_cons (ps_for PassesOwn.never rfl (pi_enum (by rfl) B.enumerate (pa_cons (pe_ix ix_tup (pv 4) pe_int (fun _ _ => rfl)) pa_nil)) (pg_tup rfl (pgs_cons (pg_name (i := 6) sc_prices_drawn.nd rfl (Or.inl rfl)) (pgs_cons (pg_name (i := 7) sc_prices_drawn.nd rfl (Or.inl rfl)) pgs_nil))) (pss_cons (ps_set (i := 8) sc_prices_drawn.nd rfl (Or.inl rfl) (pe_ix ix_list (pv 1) (pe_op op_mod (pe_op op_add (pe_op op_mul pe_int (pv 3)) (pv 6)) (pe_callB call_lnL (by rfl) B.len (by decide +kernel) (pa_cons (pv 1) pa_nil))) (fun _ _ => rfl)))
 (pss_one (ps_expr (pe_bm PySem.F.plainAttrs_list PySem.F.slot_list_append PySem.F.type_list_append mt_append (pv 5) (pa_cons (pe_ix ix_list (pe_lst (pa_cons (pe_op op_add (pe_ix ix_tup (pv 7) pe_int (fun _ _ => rfl)) (pe_op op_mod (pv 8) pe_int)) (pa_cons (pe_op op_sub (pe_op op_mod (pv 8) pe_int) pe_int) (pa_cons (pe_ix ix_tup (pv 7) pe_int (fun _ _ => rfl)) (pa_cons (pe_op op_add (pe_op op_add (pe_ix ix_list (pe_ix ix_tup (pv 0) pe_int (fun _ _ => rfl)) (pv 6) (fun _ _ => rfl)) (pe_ix ix_tup (pv 7) pe_int (fun _ _ => rfl))) (pv 8)) pa_nil))))) (pe_op op_mod (pv 8) pe_int) (fun _ _ => rfl)) pa_nil))))))
 (pss_one (ps_expr (pe_bm PySem.F.plainAttrs_list PySem.F.slot_list_append PySem.F.type_list_append mt_append (pv 2) (pa_cons (pv 5) pa_nil)))))))
 (pss_one (ps_ret (pv 2))))), ?_⟩
    obtain ⟨⟨c1, c2⟩, c3, _, ⟨c5, c6⟩, c7⟩ := bak_parts hb
    obtain ⟨a, l, v2, ga, xl, xg, rfl, ht, hl, hla, h2, hgl, hga⟩ := Th.bak hx
    have e := hla.intsV
    subst e
    have hxg : xg.length = b.goods.length := by rw [hga.length, List.length_map]
    have fl1 : 1 ≤ fs.length := Nat.one_le_iff_ne_zero.mpr fun z => fne (List.length_eq_zero_iff.mp z)
    walk_at "wp"
    refine ⟨sz100 (by decide), fun D hD => ?_⟩
    have S0 := same_upd (o := .lst []) hD
    have E0 : upd H D (.lst []) D = some (.lst []) := upd_same
    generalize upd H D (.lst []) = H0 at S0 E0 ⊢
    refine ⟨_, _, Same.tup S0 ht, atI_nat (j := 2) rfl, ?_⟩
    walk_at "wp"
    refine ⟨_, S0.seq hgl, ?_⟩
    refine LoopR.by (walk_enum (xs := xg)) (fun i σ H' => (∃ y3 y4 y5 y6 y7 y8 : Option V, σ = [some (.ref a), some (.ref pd), some (.ref D), y3, y4, y5, y6, y7, y8]) ∧ Same H H' ∧ ∃ vs W, H' D = some (.lst vs) ∧ ThAll K (but [D] H') vs (W.map wListD) ∧ W.length = i ∧ (∀ w ∈ W, w.length = b.lights.length) ∧ PrS W) ⟨⟨_, _, _, _, _, _, rfl⟩, S0, [], [], E0, .nil, rfl, fun w hw => (by cases hw), fun w hw => (by cases hw)⟩ (fun i σ H' _ hI => hI.2.1.seq hgl) (fun i v σ H1 H2 hi hI yy => ?_) (fun σ H1 hI => ?_)
    · obtain ⟨⟨y3, y4, y5, y6, y7, y8, rfl⟩, S1, vs, W, eD, hvs, hWl, hWe, hWs⟩ := hI
      have SY := ypair_same yy
      obtain ⟨T, z1, z2, rfl, hT, rfl, e1, e2⟩ := yy
      cases e1
      have e2 : xg[i]? = some z2 := e2
      have eT : upd H1 T (.tup [V.int (i : Int), z2]) T = some (.tup [V.int (i : Int), z2]) := upd_same
      generalize upd H1 T (.tup [V.int (i : Int), z2]) = H2 at SY eT ⊢
      have S2 := S1.trans SY
      have eD2 := SY _ _ eD
      have hvs2 := hvs.same (but_mono (S := [D]) SY)
      obtain ⟨gd0, hgd, hz⟩ := hga.get e2
      rw [List.getElem?_map] at hgd
      obtain ⟨g, hgg, rfl⟩ := Option.map_eq_some_iff.mp hgd
      obtain ⟨k1, k2, k3⟩ := c7 g (List.mem_of_getElem? hgg)
      obtain ⟨tg, ad, xs, rfl, htg, hsd, hda⟩ := hz.good
      have hxl : xs.length = g.days.length := by rw [hda.length, List.length_map]
      walk_at "wp"
      refine ⟨_, SqT.of eT, rfl, ?_⟩
      walk_at "wg"
      walk_at "wp"
      refine ⟨sz100 (by decide), fun R hR => ?_⟩
      have nRD : R ≠ D := fun z => by rw [z, eD2] at hR; cases hR
      have S3 := same_upd (o := .lst []) hR
      have E3 : upd H2 R (.lst []) R = some (.lst []) := upd_same
      generalize upd H2 R (.lst []) = H3 at S3 E3 ⊢
      refine ⟨_, _, Same.tup (S2.trans S3) htg, atI_nat (j := 0) rfl, ?_⟩
      walk_at "wp"
      refine ⟨_, (S2.trans S3).seq hsd, ?_⟩
      refine LoopR.by (walk_enum (xs := xs)) (fun m σ H' => (∃ y6 y7 y8 : Option V, σ = [some (.ref a), some (.ref pd), some (.ref D), some (.int (i : Int)), some (.ref tg), some (.ref R), y6, y7, y8]) ∧ Same H2 H' ∧ ∃ ws : List Int, H' R = some (.lst (ws.map V.int)) ∧ ws.length = m ∧ ∀ z ∈ ws, z.natAbs < 10 ^ 11) ⟨⟨_, _, _, rfl⟩, S3, [], E3, rfl, fun z hz => (by cases hz)⟩ (fun m σ H' _ hI => (S2.trans hI.2.1).seq hsd) (fun m v σ H4 H5 hm hI yy => ?_) (fun σ H4 hI => ?_)
      · obtain ⟨⟨y6, y7, y8, rfl⟩, S4, ws, eR, hwl, hws⟩ := hI
        have SY2 := ypair_same yy
        obtain ⟨T2, z1, z2, rfl, hT2, rfl, e3, e4⟩ := yy
        cases e3
        have e4 : xs[m]? = some z2 := e4
        have eT2 : upd H4 T2 (.tup [V.int (m : Int), z2]) T2 = some (.tup [V.int (m : Int), z2]) := upd_same
        generalize upd H4 T2 (.tup [V.int (m : Int), z2]) = H5 at SY2 eT2 ⊢
        have S5 := S4.trans SY2
        have eR5 := SY2 _ _ eR
        obtain ⟨dd0, hdd, hzd⟩ := hda.get e4
        rw [List.getElem?_map] at hdd
        obtain ⟨d, hd', rfl⟩ := Option.map_eq_some_iff.mp hdd
        obtain ⟨td, rfl, htd⟩ := hzd.day
        have hdn := nums_of_day (k3 d (List.mem_of_getElem? hd'))
        walk_at "wp"
        refine ⟨_, SqT.of eT2, rfl, ?_⟩
        walk_at "wg"
        walk_at "wp"
        have SH := S2.trans S5
        obtain ⟨k, hk, hk2⟩ : ∃ k : Nat, (6 * (i : Int) + (m : Int)) % (fs.length : Int) = (k : Int) ∧ k < fs.length := by
          have b1 := Int.emod_nonneg (6 * (i : Int) + (m : Int)) (b := (fs.length : Int)) (by omega)
          have b2 := Int.emod_lt_of_pos (6 * (i : Int) + (m : Int)) (b := (fs.length : Int)) (by omega)
          exact ⟨((6 * (i : Int) + (m : Int)) % (fs.length : Int)).toNat, by omega, by omega⟩
        have hfk : fs[k]? = some fs[k] := List.getElem?_eq_getElem hk2
        have hfb := fbd _ (List.getElem_mem hk2)
        generalize fs[k] = f1 at hfk hfb
        have hlm : m < b.lights.length := by omega
        have hli : b.lights[m]? = some b.lights[m] := List.getElem?_eq_getElem hlm
        have hlb := c3 _ (List.getElem_mem hlm)
        generalize b.lights[m] = light at hli hlb
        simp only [numD, Bool.and_eq_true, decide_eq_true_eq] at hlb
        refine ⟨.inl ⟨by omega, by omega⟩, _, SH.seq hd, by rw [List.length_map]; omega, ?_⟩
        rw [List.length_map, hk]
        refine ⟨_, .int f1, SH.seq hd, atI_nat (by rw [List.getElem?_map, hfk]; rfl), tyL (SqL.of eR5), _, _, Same.tup SH htd, atI_nat (j := 1) rfl, ?_⟩
        walk_at "wp"
        refine ⟨by decide, by decide, _, _, Same.tup SH htd, atI_nat (j := 1) rfl, _, _, Same.tup SH ht, atI_nat (j := 0) rfl, ?_⟩
        walk_at "wp"
        refine ⟨_, _, SH.seq hl, atI_nat (by rw [List.getElem?_map, hli]; rfl), _, _, Same.tup SH htd, atI_nat (j := 1) rfl, ?_⟩
        walk_at "wp"
        have hpick : ∃ z : Int, atI [V.int (d.loaf + f1 % 9), V.int (f1 % 40 - 4), V.int d.loaf, V.int (light + d.loaf + f1)] (f1 % 4) = some (.int z) ∧ z.natAbs < 10 ^ 11 := by
          have b1 := Int.emod_nonneg f1 (show (4 : Int) ≠ 0 by decide)
          have b2 := Int.emod_lt_of_pos f1 (show (0 : Int) < 4 by decide)
          have b3 := Int.emod_nonneg f1 (show (9 : Int) ≠ 0 by decide)
          have b4 := Int.emod_lt_of_pos f1 (show (0 : Int) < 9 by decide)
          have b5 := Int.emod_nonneg f1 (show (40 : Int) ≠ 0 by decide)
          have b6 := Int.emod_lt_of_pos f1 (show (0 : Int) < 40 by decide)
          have hlo := hdn.2.1
          rcases (show f1 % 4 = 0 ∨ f1 % 4 = 1 ∨ f1 % 4 = 2 ∨ f1 % 4 = 3 by omega) with e | e | e | e <;> rw [e]
          · exact ⟨_, atI_nat (j := 0) rfl, by omega⟩
          · exact ⟨_, atI_nat (j := 1) rfl, by omega⟩
          · exact ⟨_, atI_nat (j := 2) rfl, by omega⟩
          · exact ⟨_, atI_nat (j := 3) rfl, by omega⟩
        obtain ⟨z, hz, hzb⟩ := hpick
        refine ⟨sz100 (by decide), fun p5 hp5 => ⟨by decide, _, _, SqL.of upd_same, hz, ?_⟩⟩
        have U5 := same_upd (o := .lst [V.int (d.loaf + f1 % 9), V.int (f1 % 40 - 4), V.int d.loaf, V.int (light + d.loaf + f1)]) hp5
        generalize upd H5 p5 (.lst [V.int (d.loaf + f1 % 9), V.int (f1 % 40 - 4), V.int d.loaf, V.int (light + d.loaf + f1)]) = H6 at U5 ⊢
        refine ⟨_, U5 _ _ eR5, sz100l (by rw [List.length_map]; omega), ⟨_, _, _, rfl, rfl, rfl⟩, same_mut (S5.trans U5) hR, ws ++ [z], by rw [upd_same, List.map_append]; rfl, by rw [List.length_append, hwl]; rfl, fun y hy => ?_⟩
        rcases List.mem_append.mp hy with hy | hy
        · exact hws y hy
        · rw [List.mem_singleton.mp hy]
          exact hzb
      · obtain ⟨⟨y6, y7, y8, rfl⟩, S4, ws, eR, hwl, hws⟩ := hI
        have eD4 := S4 _ _ eD2
        walk_at "wp"
        refine ⟨tyL (SqL.of eD4), _, eD4, sz100l (by rw [hvs2.length, List.length_map, hWl]; omega), ⟨_, _, _, _, _, _, rfl, rfl, rfl, rfl, rfl, rfl⟩, same_mut (S2.trans S4) hD, vs ++ [.ref R], W ++ [ws], upd_same, ?_, by rw [List.length_append, hWl]; rfl, fun w hw => ?_, fun w hw => ?_⟩
        · rw [but_upd (by simp), List.map_append]
          exact (hvs2.same (but_mono S4)).append (.cons (.lst (SqL.of (but_at (by simpa using nRD) eR)) (ThAll.ints ws)) .nil)
        · rcases List.mem_append.mp hw with hw | hw
          · exact hWe w hw
          · rw [List.mem_singleton.mp hw, hwl, hxl, k1]
        · rcases List.mem_append.mp hw with hw | hw
          · exact hWs w hw
          · rw [List.mem_singleton.mp hw]
            exact hws
    · obtain ⟨⟨y3, y4, y5, y6, y7, y8, rfl⟩, S1, vs, W, eD, hvs, hWl, hWe, hWs⟩ := hI
      walk_at "wp"
      exact q _ _ W S1 (.lst (SqL.of eD) (hvs.same (but_same _ _))) ⟨by rw [hWl, hxg], hWe⟩ hWs
end
end Bk

namespace Bk
open PySem PySem.Spec PyProof.Rows L2
local macro_rules | `(tactic| walk_at "wp") => `(tactic| try simp only [rEqNT_r, tChain3, rGtT_r, tRaise1f, rSorTL_r, rSorTR_r, tCKw, tLc2_eq, rIntS_r, rLenS_r, rIxS_r, rInS_r, rSplit_r, iStr_eq, rNewStrs, iRng3_eq, rRng3_i, tM1, tFmt, iLT, tAugS, tScT2, rSetL_r, rSetOf2_r, rSorDT_r, rSetD, tDGet2, tDGet, tDNewT, rExtend_r, rSortU_r, rSetOf_r, rSortedSet_r, rNinr_r, rNeN_r, rCatL_r, rSlT_r, rListOf_r, rIsB_b, rNotB_b, tFmtO, tJs, tOst, tCallS, WE, tRaise2, rOne_i, rSorD_r, tDNewK, Int.zero_add, tNever, tFor_eq, tLc_eq, iList, iTup, iRng1_eq, rRng1_i, iRng2_eq, rRng2_i, iEnum_eq, rEnum_r, iZip_eq, rZip_r, tSl, tPart, tNoPart, rSlL_r, rCat_r, rIn_r, rNin_r, rRepr_r, iRevR, rMin_r, rShr_i, rOdd_i, rSetL_r, gSub, rRg1_i, rRg2_i, rInr_r, tAug, ipI_ii, tLstRg, tRg1, tRg2, gTup_r, gUnl_r, rInt1_b, rInt1_i, rRep_r, tStep_r, scal, tSeq, tNext, tAsg, tRet, tRetN, tIfS, tDrop, tCB, tCons, tNil, tVar, tOp, tUn, tC, rU_i, rI_ii, rI0_ii, rEq, rNe, tTest, tB, tAnd, tOr, tNot, tAndV, tOrV, tNotV, tIf, tChain, tLst, tTup, tBM, tBM0, rAppend_r, rIxL_r, rIxT_r, rMx_ii, rMn_ii, rLnL_r, rLnT_r, rIsD_int, rIsD_bool, rIsD_list, rIsD_tuple, tCall, gName, gNil_n, gCons_c, cxK, L2.start, List.map, List.replicate, List.length_cons, List.length_nil, List.cons_append, List.nil_append, List.append_nil, List.getElem?_cons_zero, List.getElem?_cons_succ, Option.some.injEq, exists_eq_left', exists_eq_left, V.int.injEq, V.bl.injEq, V.str.injEq, V.ref.injEq, List.cons.injEq, and_true, true_and, and_self, List.set, wipe, rAll_r, rSum_r, reduceCtorEq, decide_true, decide_false, reduceIte, ite_true, ite_false, if_true, if_false, Bool.false_eq_true, Bool.not_true, Bool.not_false])
local macro_rules | `(tactic| walk_at "shaped") => `(tactic| (simp only [rGtT_r, SeqAt.shaped, PyData.canLay0, PyData.canLayAll0, PyData.depth, PyData.depthAll]; rfl))
local macro_rules | `(tactic| walk_at "lay") => `(tactic| (simp only [rGtT_r, PyData.canLay0, PyData.canLayAll0]; rfl))
local macro_rules | `(tactic| walk_at "wg") => `(tactic| try simp only [gName, gTup_r, gCons_c, gNil_n, cxK, List.set, List.cons.injEq, and_true, true_and, exists_eq_left', exists_eq_left, List.length_cons, List.length_nil])
section
variable {P : Program} {w : World} {K : PySem.W.Frag} {mg : Str → Option Value} {base : Heap}
abbrev s_tree_drawn : Stmt := top 67
theorem sc_tree_drawn : FnScope ["_law_bakery", "_law_digits", "_law_deep", "_law_day_here", "_law_way", "_law_dark"] ["_law_bakery", "_law_digits", "_law_deep"] (defScope s_tree_drawn) := ⟨rfl, rfl, rfl, by decide +kernel, rfl, by decide +kernel, by decide +kernel⟩
/-- drawn trees, so many splits deep at most -/
inductive DT (b : Bak) : Nat → PyData → Prop
  | prices {n : Nat} {W : List (List Int)} : PrOk b W → PrS W → DT b n (.tuple [.str "prices", pricesD W])
  | stretch {n : Nat} {i j : Int} : 0 ≤ i → i < (b.lights.length : Int) → 0 ≤ j → j ≤ 100 → DT b n (.tuple [.str "stretch", .int i, .int j])
  | split {n : Nat} {i : Int} {c e : PyData} : 0 ≤ i → i < (b.lights.length : Int) → DT b n c → DT b n e → DT b (n + 1) (.tuple [.str "split", .int i, c, e])
def spTDr (K : PySem.W.Frag) (n : Nat) : Sp := fun vs H Q _ => ∃ x b pd fs, ∃ deep : Nat, vs = [x, .ref pd, .int (deep : Int)] ∧ Th K H x (bakD b) ∧ bakB (bakD b) = true ∧ SqL K H pd ((fs : List Int).map V.int) ∧ fs.length = 12 ∧ (∀ f ∈ fs, 0 ≤ f ∧ f ≤ 200) ∧ 7 ≤ deep + 2 * n ∧ deep ≤ 8 ∧ ∀ H' v d, Same H H' → Th K H' v d → DT b n d → Q v H'
theorem ok_tree_drawnS {f : Addr} {fd : FuncData} {n : Nat} {sp : Sp} (F : Fun K "_law_tree_drawn" "_law_tree_drawn" s_tree_drawn f fd) (B : Bi mg) (D_prices_drawn : Def P w K mg base "_law_prices_drawn" 1 ["_law_bakery", "_law_digits"] (spPrDr K)) (D_tree_drawn : Def P w K mg base "_law_tree_drawn" (1 + n) ["_law_bakery", "_law_digits", "_law_deep"] sp) (hsp : n = 0 ∨ ∃ m, n = m + 1 ∧ sp = spTDr K m) : FnOk P w K mg base CX0 (1 + n + 1) f fd ["_law_bakery", "_law_digits", "_law_deep"] (spTDr K n) := by
  refine F.ok sc_tree_drawn (fun vs H Q E h => ?_) (fun cdv A outer s H vs Q E hr h => ?_)
  · obtain ⟨_, _, _, _, _, rfl, _⟩ := h
    rfl
  · obtain ⟨x, b, pd, fs, deep, rfl, hx, hb, hd, hf12, fbd, hdn, hd8, q⟩ := h
    refine ⟨_, (pss_cons (ps_set (i := 3) sc_tree_drawn.nd rfl (Or.inl rfl) (pe_op op_mod (pe_ix ix_list (pv 1) (pv 2) (fun _ _ => rfl)) (pe_callB call_lnL (by rfl) B.len (by decide +kernel) (pa_cons (pe_ix ix_tup (pv 0) pe_int (fun _ _ => rfl)) pa_nil))))
 (pss_cons (ps_set (i := 4) sc_tree_drawn.nd rfl (Or.inl rfl) (pe_op op_mod (pe_ix ix_list (pv 1) (pe_op op_add (pv 2) pe_int) (fun _ _ => rfl)) pe_int))
 (pss_cons (ps_if (PW.pt (pw_or (pt_cmpR op_eq (pv 4) pe_int (nomark _)) (pw_or1 (pt_cmpR op_gt (pv 2) pe_int (nomark _))))) (pss_one (ps_ret (pe_tup (pa_cons pe_str (pa_cons (pe_callD D_prices_drawn hr (by rfl) (pa_cons (pv 0) (pa_cons (pe_slice sl_list (pv 1) (po_some (pv 2)) po_none) pa_nil))) pa_nil))))) pss_nil)
 (pss_cons (ps_if (pt_cmpR op_eq (pv 4) pe_int (nomark _)) (pss_one (ps_ret (pe_tup (pa_cons pe_str (pa_cons (pv 3) (pa_cons (pe_callB (call_mn rfl) (by rfl) B.min (by decide +kernel) (pa_cons (pe_op op_sub (pe_callB call_lnL (by rfl) B.len (by decide +kernel) (pa_cons (pe_ix ix_tup (pv 0) pe_int (fun _ _ => rfl)) pa_nil)) pe_int) (pa_cons (pe_op op_add (pv 3) (pe_op op_mod (pe_ix ix_list (pv 1) (pe_op op_add (pv 2) pe_int) (fun _ _ => rfl)) pe_int)) pa_nil))) pa_nil)))))) pss_nil)
 (pss_cons (ps_if (pt_cmpR op_lt (pv 4) pe_int (nomark _)) (pss_one (ps_ret (pe_tup (pa_cons pe_str (pa_cons (pe_callD D_prices_drawn hr (by rfl) (pa_cons (pv 0) (pa_cons (pe_slice sl_list (pv 1) (po_some (pe_op op_add (pv 2) pe_int)) po_none) pa_nil))) pa_nil))))) pss_nil)
 (pss_cons (ps_set (i := 5) sc_tree_drawn.nd rfl (Or.inl rfl) (pe_callD D_tree_drawn hr (by rfl) (pa_cons (pv 0) (pa_cons (pv 1) (pa_cons (pe_op op_add (pv 2) pe_int) pa_nil)))))
 (pss_one (ps_ret (pe_tup (pa_cons pe_str (pa_cons (pe_op op_mod (pe_op op_add (pv 3) (pv 2)) (pe_callB call_lnL (by rfl) B.len (by decide +kernel) (pa_cons (pe_ix ix_tup (pv 0) pe_int (fun _ _ => rfl)) pa_nil))) (pa_cons (pv 5) (pa_cons (pe_callD D_tree_drawn hr (by rfl) (pa_cons (pv 0) (pa_cons (pe_step (pv 1) po_none po_none (po_some (pe_un un_neg pe_int))) (pa_cons (pe_op op_add (pv 2) pe_int) pa_nil)))) pa_nil))))))))))))), ?_⟩
    obtain ⟨⟨c1, c2⟩, c3, _, ⟨c5, c6⟩, c7⟩ := bak_parts hb
    have hx0 := hx
    obtain ⟨a, l, v2, ga, xl, xg, rfl, ht, hl, hla, h2, hgl, hga⟩ := Th.bak hx
    have lenL : xl.length = b.lights.length := by rw [hla.length, List.length_map]
    have dig : ∀ k : Nat, k < 12 → ∃ z : Int, fs[k]? = some z ∧ atI (fs.map V.int) (k : Int) = some (.int z) ∧ 0 ≤ z ∧ z ≤ 200 := fun k hk => by
      have hk' : k < fs.length := by omega
      have := fbd _ (List.getElem_mem hk')
      exact ⟨fs[k], List.getElem?_eq_getElem hk', atI_nat (by rw [List.getElem?_map, List.getElem?_eq_getElem hk']; rfl), this.1, this.2⟩
    obtain ⟨f0, e0, a0, b00, b01⟩ := dig deep (by omega)
    obtain ⟨f1, e1, a1, b10, b11⟩ := dig (deep + 1) (by omega)
    obtain ⟨f2, e2, a2, b20, b21⟩ := dig (deep + 2) (by omega)
    have hcast1 : ((deep : Int) + 1) = ((deep + 1 : Nat) : Int) := by omega
    have hcast2 : ((deep : Int) + 2) = ((deep + 2 : Nat) : Int) := by omega
    obtain ⟨day, hday, hday2⟩ : ∃ k : Nat, f0 % (b.lights.length : Int) = (k : Int) ∧ k < b.lights.length := by
      have b1 := Int.emod_nonneg f0 (b := (b.lights.length : Int)) (by omega)
      have b2 := Int.emod_lt_of_pos f0 (b := (b.lights.length : Int)) (by omega)
      exact ⟨(f0 % (b.lights.length : Int)).toNat, by omega, by omega⟩
    obtain ⟨way, hway, hway2⟩ : ∃ k : Nat, f1 % 8 = (k : Int) ∧ k < 8 := by
      have b1 := Int.emod_nonneg f1 (show (8 : Int) ≠ 0 by decide)
      have b2 := Int.emod_lt_of_pos f1 (show (0 : Int) < 8 by decide)
      exact ⟨(f1 % 8).toNat, by omega, by omega⟩
    refine seq2 (fun σ' H' => σ' = [some (.ref a), some (.ref pd), some (.int (deep : Int)), some (.int (day : Int)), some (.int (way : Int)), none] ∧ H' = H) (fun σ1 H1 hm => ?_) (fun N hN => ?_)
    rotate_left
    · walk_at "wp"
      refine ⟨_, _, hd, a0, _, _, ht, atI_nat (j := 0) rfl, ?_⟩
      walk_at "wp"
      refine ⟨_, hl, ?_⟩
      rw [lenL]
      walk_at "wp"
      rw [hday, hcast1]
      refine ⟨by omega, _, _, hd, a1, ?_⟩
      walk_at "wp"
      rw [hway]
      exact ⟨by decide, hN _ _ ⟨rfl, rfl⟩⟩
    obtain ⟨rfl, rfl⟩ := hm
    have prc : ∀ k : Nat, k ≤ 10 → DigS (fs.drop k) := fun k hk => ⟨fun z => by have := congrArg List.length z; rw [List.length_drop, List.length_nil] at this; omega, by rw [List.length_drop]; omega, fun f hf => fbd f (List.mem_of_mem_drop hf)⟩
    have cut : ∀ k : Nat, cutV (fs.map V.int) (some (k : Int)) none = (fs.drop k).map V.int := fun k => by rw [cutV_from, List.map_drop]
    have fin : ∀ {H' : Hp} {v : V} {W : List (List Int)} {p : Addr}, Same H1 H' → Th K H' v (pricesD W) → PrOk b W → PrS W → H' p = none → Q (.ref p) (upd H' p (.tup [.str "prices", v])) := fun S hv hW hs hp => q _ _ _ (S.trans (same_upd hp)) (.tup (SqT.of upd_same) (.cons (.str _) (.cons (hv.same (same_upd hp)) .nil))) (.prices hW hs)
    refine seq1 (fun σ' H' => σ' = [some (.ref a), some (.ref pd), some (.int (deep : Int)), some (.int (day : Int)), some (.int (way : Int)), none] ∧ H' = H1 ∧ deep ≤ 6) (fun σ1 H2 hm => ?_) (fun N hN => ?_)
    rotate_left
    · walk_at "wp"
      have draw : ∃ xs, SqL K H1 pd xs ∧ ∀ (p : Addr), H1 p = none → spPrDr K [V.ref a, V.ref p] (upd H1 p (HO.lst (cutV xs (some (deep : Int)) none))) (fun x H1 => 0 + 1 + 1 ≤ sizeLine ∧ ∀ (p : Addr), H1 p = none → Q (V.ref p) (upd H1 p (HO.tup [V.str (Str.ofString "prices"), x]))) E0 := by
        refine ⟨_, hd, fun p hp => ?_⟩
        rw [cut]
        have S2 := same_upd (o := .lst ((fs.drop deep).map V.int)) hp
        exact ⟨_, b, p, fs.drop deep, rfl, hx0.same S2, hb, SqL.of upd_same, prc _ (by omega), fun H3 v W S3 hv hW hs => ⟨sz100 (by decide), fun p2 hp2 => fin (S2.trans S3) hv hW hs hp2⟩⟩
      refine ite2 (fun _ => draw) (fun _ => ite2 (fun _ => draw) (fun h => ?_))
      exact hN _ _ ⟨rfl, rfl, by rw [decide_eq_true_eq] at h; omega⟩
    obtain ⟨rfl, rfl, hd6⟩ := hm
    walk_at "wp"
    refine ite2 (fun _ => ?_) (fun _ => ite2 (fun _ => ?_) (fun _ => ?_))
    · refine ⟨_, _, ht, atI_nat (j := 0) rfl, ?_⟩
      walk_at "wp"
      refine ⟨_, hl, ?_⟩
      rw [lenL, hcast2]
      refine ⟨_, _, hd, a2, ?_⟩
      walk_at "wp"
      have m1 := Int.emod_nonneg f2 (show (3 : Int) ≠ 0 by decide)
      have m2 := Int.emod_lt_of_pos f2 (show (0 : Int) < 3 by decide)
      refine ⟨by decide, sz100 (by decide), fun p hp => ?_⟩
      refine q _ _ _ (same_upd hp) (.tup (SqT.of upd_same) (.cons (.str _) (.cons (.int _) (.cons (.int _) .nil)))) (.stretch (by omega) (by omega) ?_ ?_)
      · split <;> omega
      · split <;> omega
    · refine ⟨_, hd, fun p hp => ?_⟩
      rw [hcast2, cut]
      have S2 := same_upd (o := .lst ((fs.drop (deep + 2)).map V.int)) hp
      exact ⟨_, b, p, fs.drop (deep + 2), rfl, hx0.same S2, hb, SqL.of upd_same, prc _ (by omega), fun H3 v W S3 hv hW hs => ⟨sz100 (by decide), fun p2 hp2 => fin (S2.trans S3) hv hW hs hp2⟩⟩
    · rcases hsp with rfl | ⟨m, rfl, rfl⟩
      · omega
      refine ⟨_, b, pd, fs, deep + 2, by rw [hcast2], hx0, hb, hd, hf12, fbd, by omega, by omega, fun H3 v c S3 hv hc => ?_⟩
      refine ⟨_, _, Same.tup S3 ht, atI_nat (j := 0) rfl, ?_⟩
      walk_at "wp"
      refine ⟨_, S3.seq hl, ?_⟩
      rw [lenL]
      walk_at "wp"
      obtain ⟨at1, hat, hat2⟩ : ∃ k : Nat, ((day : Int) + (deep : Int)) % (b.lights.length : Int) = (k : Int) ∧ k < b.lights.length := by
        have b1 := Int.emod_nonneg ((day : Int) + (deep : Int)) (b := (b.lights.length : Int)) (by omega)
        have b2 := Int.emod_lt_of_pos ((day : Int) + (deep : Int)) (b := (b.lights.length : Int)) (by omega)
        exact ⟨(((day : Int) + (deep : Int)) % (b.lights.length : Int)).toNat, by omega, by omega⟩
      rw [hat]
      refine ⟨by omega, _, _, rfl, S3.seq hd, by decide, fun p hp => ?_⟩
      rw [stepV_rev, ← List.map_reverse]
      have S4 := S3.trans (same_upd (o := .lst (fs.reverse.map V.int)) hp)
      have U4 := same_upd (o := .lst (fs.reverse.map V.int)) hp
      have E4 : upd H3 p (.lst (fs.reverse.map V.int)) p = some (.lst (fs.reverse.map V.int)) := upd_same
      generalize upd H3 p (.lst (fs.reverse.map V.int)) = H4 at S4 U4 E4 ⊢
      refine ⟨_, b, p, fs.reverse, deep + 2, by rw [hcast2], hx0.same S4, hb, SqL.of E4, by rw [List.length_reverse]; exact hf12, fun f hf => fbd f (List.mem_reverse.mp hf), by omega, by omega, fun H5 u e S5 hu he => ⟨sz100 (by decide), fun p5 hp5 => ?_⟩⟩
      exact q _ _ _ ((S4.trans S5).trans (same_upd hp5)) (.tup (SqT.of upd_same) (.cons (.str _) (.cons (.int _) (.cons ((hv.same (U4.trans S5)).same (same_upd hp5)) (.cons (hu.same (same_upd hp5)) .nil))))) (.split (by omega) (by omega) hc he)
theorem ok_tree_drawnK {f : Addr} {fd : FuncData} (F : Fun K "_law_tree_drawn" "_law_tree_drawn" s_tree_drawn f fd) (B : Bi mg) (D_prices_drawn : Def P w K mg base "_law_prices_drawn" 1 ["_law_bakery", "_law_digits"] (spPrDr K)) (hm : mg "_law_tree_drawn" = some (.ref f)) (hk : PySem.W.keepIn K (.ref f) = true) (hb : Binds K fd ["_law_bakery", "_law_digits", "_law_deep"] []) : ∀ n : Nat, FnOk P w K mg base CX0 (1 + n + 1) f fd ["_law_bakery", "_law_digits", "_law_deep"] (spTDr K n)
  | 0 => ok_tree_drawnS F B D_prices_drawn (sp := fun _ _ _ _ => False) ⟨_, _, hm, hk, hb, ⟨fun _ _ _ _ h => h.elim, fun _ _ _ _ _ _ _ _ _ _ _ _ _ h => h.elim⟩⟩ (.inl rfl)
  | n + 1 => ok_tree_drawnS F B D_prices_drawn ⟨_, _, hm, hk, hb, ok_tree_drawnK F B D_prices_drawn hm hk hb n⟩ (.inr ⟨n, rfl, rfl⟩)
theorem ok_tree_drawn {f : Addr} {fd : FuncData} (F : Fun K "_law_tree_drawn" "_law_tree_drawn" s_tree_drawn f fd) (B : Bi mg) (D_prices_drawn : Def P w K mg base "_law_prices_drawn" 1 ["_law_bakery", "_law_digits"] (spPrDr K)) (hm : mg "_law_tree_drawn" = some (.ref f)) (hk : PySem.W.keepIn K (.ref f) = true) (hb : Binds K fd ["_law_bakery", "_law_digits", "_law_deep"] []) : FnOk P w K mg base CX0 6 f fd ["_law_bakery", "_law_digits", "_law_deep"] (spTDr K 4) := ok_tree_drawnK F B D_prices_drawn hm hk hb 4
end
end Bk

namespace Bk
open PySem PySem.Spec PyProof.Rows L2
local macro_rules | `(tactic| walk_at "wp") => `(tactic| try simp only [rEqNT_r, tChain3, rGtT_r, tRaise1f, rSorTL_r, rSorTR_r, tCKw, tLc2_eq, rIntS_r, rLenS_r, rIxS_r, rInS_r, rSplit_r, iStr_eq, rNewStrs, iRng3_eq, rRng3_i, tM1, tFmt, iLT, tAugS, tScT2, rSetL_r, rSetOf2_r, rSorDT_r, rSetD, tDGet2, tDGet, tDNewT, rExtend_r, rSortU_r, rSetOf_r, rSortedSet_r, rNinr_r, rNeN_r, rCatL_r, rSlT_r, rListOf_r, rIsB_b, rNotB_b, tFmtO, tJs, tOst, tCallS, WE, tRaise2, rOne_i, rSorD_r, tDNewK, Int.zero_add, tNever, tFor_eq, tLc_eq, iList, iTup, iRng1_eq, rRng1_i, iRng2_eq, rRng2_i, iEnum_eq, rEnum_r, iZip_eq, rZip_r, tSl, tPart, tNoPart, rSlL_r, rCat_r, rIn_r, rNin_r, rRepr_r, iRevR, rMin_r, rShr_i, rOdd_i, rSetL_r, gSub, rRg1_i, rRg2_i, rInr_r, tAug, ipI_ii, tLstRg, tRg1, tRg2, gTup_r, gUnl_r, rInt1_b, rInt1_i, rRep_r, tStep_r, scal, tSeq, tNext, tAsg, tRet, tRetN, tIfS, tDrop, tCB, tCons, tNil, tVar, tOp, tUn, tC, rU_i, rI_ii, rI0_ii, rEq, rNe, tTest, tB, tAnd, tOr, tNot, tAndV, tOrV, tNotV, tIf, tChain, tLst, tTup, tBM, tBM0, rAppend_r, rIxL_r, rIxT_r, rMx_ii, rMn_ii, rLnL_r, rLnT_r, rIsD_int, rIsD_bool, rIsD_list, rIsD_tuple, tCall, gName, gNil_n, gCons_c, cxK, L2.start, List.map, List.replicate, List.length_cons, List.length_nil, List.cons_append, List.nil_append, List.append_nil, List.getElem?_cons_zero, List.getElem?_cons_succ, Option.some.injEq, exists_eq_left', exists_eq_left, V.int.injEq, V.bl.injEq, V.str.injEq, V.ref.injEq, List.cons.injEq, and_true, true_and, and_self, List.set, wipe, rAll_r, rSum_r, reduceCtorEq, decide_true, decide_false, reduceIte, ite_true, ite_false, if_true, if_false, Bool.false_eq_true, Bool.not_true, Bool.not_false])
local macro_rules | `(tactic| walk_at "shaped") => `(tactic| (simp only [rGtT_r, SeqAt.shaped, PyData.canLay0, PyData.canLayAll0, PyData.depth, PyData.depthAll]; rfl))
local macro_rules | `(tactic| walk_at "lay") => `(tactic| (simp only [rGtT_r, PyData.canLay0, PyData.canLayAll0]; rfl))
local macro_rules | `(tactic| walk_at "wg") => `(tactic| try simp only [gName, gTup_r, gCons_c, gNil_n, cxK, List.set, List.cons.injEq, and_true, true_and, exists_eq_left', exists_eq_left, List.length_cons, List.length_nil])
section
variable {P : Program} {w : World} {K : PySem.W.Frag} {mg : Str → Option Value} {base : Heap}
abbrev s_leaves : Stmt := top 70
theorem sc_leaves : FnScope ["_law_bakery", "_law_tree", "_law_lit", "_law_dark", "_law_found"] ["_law_bakery", "_law_tree", "_law_lit", "_law_dark"] (defScope s_leaves) := ⟨rfl, rfl, rfl, by decide +kernel, rfl, by decide +kernel, by decide +kernel⟩
def spLvs (K : PySem.W.Frag) (n : Nat) : Sp := fun vs H Q _ => ∃ x b t d p q lit dark, vs = [x, t, .ref p, .ref q] ∧ Th K H x (bakD b) ∧ bakB (bakD b) = true ∧ Th K H t d ∧ DT b n d ∧ SqL K H p ((lit : List Int).map V.int) ∧ SqL K H q ((dark : List Int).map V.int) ∧ lit.length ≤ 50 - n ∧ dark.length ≤ 50 - n ∧ n ≤ 10 ∧ ∀ (H' : Hp) (r : Addr) (ns : List Int), Same H H' → SqL K H' r (ns.map V.int) → ns.length ≤ 2 ^ n → Q (.ref r) H'
theorem ok_leavesS {f : Addr} {fd : FuncData} {n : Nat} {sp : Sp} (F : Fun K "_law_leaves" "_law_leaves" s_leaves f fd) (B : Bi mg) (D_bottom_l : Def P w K mg base "_law_bottom" 3 ["_law_bakery", "_law_prices", "_law_lit", "_law_dark"] (spBottom K)) (D_leaves : Def P w K mg base "_law_leaves" (3 + n) ["_law_bakery", "_law_tree", "_law_lit", "_law_dark"] sp) (hsp : n = 0 ∨ ∃ m, n = m + 1 ∧ sp = spLvs K m) : FnOk P w K mg base CX0 (3 + n + 1) f fd ["_law_bakery", "_law_tree", "_law_lit", "_law_dark"] (spLvs K n) := by
  refine F.ok sc_leaves (fun vs H Q E h => ?_) (fun cdv A outer s H vs Q E hr h => ?_)
  · obtain ⟨_, _, _, _, _, _, _, _, rfl, _⟩ := h
    rfl
  · obtain ⟨x, b, t, d, p, q', lit, dark, rfl, hx, hb, ht, hdt, hp, hq, hl50, hd50, hn10, q⟩ := h
    refine ⟨_, (pss_cons (ps_if (pt_cmpR op_eq (pe_ix ix_tup (pv 1) pe_int (fun _ _ => rfl)) pe_str (nomark _)) (pss_one (ps_ret (pe_lst (pa_cons (pe_callD D_bottom_l hr (by rfl) (pa_cons (pv 0) (pa_cons (pe_ix ix_tup (pv 1) pe_int (fun _ _ => rfl)) (pa_cons (pv 2) (pa_cons (pv 3) pa_nil))))) pa_nil)))) pss_nil)
 (pss_cons (ps_if (pt_cmpR op_eq (pe_ix ix_tup (pv 1) pe_int (fun _ _ => rfl)) pe_str (nomark _)) (pss_one (ps_ret (pe_lst pa_nil))) pss_nil)
 (pss_cons (ps_set (i := 4) sc_leaves.nd rfl (Or.inl rfl) (pe_callD D_leaves hr (by rfl) (pa_cons (pv 0) (pa_cons (pe_ix ix_tup (pv 1) pe_int (fun _ _ => rfl)) (pa_cons (pv 2) (pa_cons (pe_op op_catL (pv 3) (pe_lst (pa_cons (pe_ix ix_tup (pv 1) pe_int (fun _ _ => rfl)) pa_nil))) pa_nil))))))
 (pss_one (ps_ret (pe_op op_catL (pv 4) (pe_callD D_leaves hr (by rfl) (pa_cons (pv 0) (pa_cons (pe_ix ix_tup (pv 1) pe_int (fun _ _ => rfl)) (pa_cons (pe_op op_catL (pv 2) (pe_lst (pa_cons (pe_ix ix_tup (pv 1) pe_int (fun _ _ => rfl)) pa_nil))) (pa_cons (pv 3) pa_nil))))))))))), ?_⟩
    have hpow : ∀ m : Nat, 1 ≤ 2 ^ m := fun m => Nat.one_le_two_pow
    cases hdt with
    | @prices _ W hW hs =>
      cases ht with
      | @tup at1 xs _ hts ha =>
      cases ha with
      | @cons _ _ _ _ h0 ha => cases ha with
      | @cons v1 _ _ _ h1 ha =>
      cases ha
      cases h0
      walk_at "wp"
      refine ⟨_, _, hts, atI_nat (j := 0) rfl, rfl, ?_⟩
      rw [if_pos (by decide)]
      refine ⟨_, _, hts, atI_nat (j := 1) rfl, ?_⟩
      refine ⟨x, b, v1, W, p, q', lit, dark, rfl, hx, hb, h1, hW, hp, hq, fun H2 S2 => ⟨sz100 (by decide), fun p2 hp2 => ?_⟩⟩
      exact q _ p2 [bottomV b W lit dark] (S2.trans (same_upd hp2)) (SqL.of upd_same) (hpow n)
    | @stretch _ i j h1 h2 h3 h4 =>
      cases ht with
      | @tup at1 xs _ hts ha =>
      cases ha with
      | @cons _ _ _ _ h0 ha => cases ha with
      | @cons v1 _ _ _ h1 ha => cases ha with
      | @cons v2 _ _ _ h2 ha =>
      cases ha
      cases h0
      walk_at "wp"
      refine ⟨_, _, hts, atI_nat (j := 0) rfl, rfl, ?_⟩
      rw [if_neg (by decide)]
      refine ⟨_, _, hts, atI_nat (j := 0) rfl, rfl, ?_⟩
      rw [if_pos (by decide)]
      exact ⟨sz100 (by decide), fun p2 hp2 => q _ p2 [] (same_upd hp2) (SqL.of upd_same) (Nat.zero_le _)⟩
    | @split m i c e i0 i1 hc he =>
      rcases hsp with z | ⟨m', hm', rfl⟩
      · cases z
      cases hm'
      cases ht with
      | @tup at1 xs _ hts ha =>
      cases ha with
      | @cons _ _ _ _ h0 ha => cases ha with
      | @cons v1 _ _ _ h1 ha => cases ha with
      | @cons v2 _ _ _ h2 ha => cases ha with
      | @cons v3 _ _ _ h3 ha =>
      cases ha
      cases h0
      cases h1
      walk_at "wp"
      refine ⟨_, _, hts, atI_nat (j := 0) rfl, rfl, ?_⟩
      rw [if_neg (by decide)]
      refine ⟨_, _, hts, atI_nat (j := 0) rfl, rfl, ?_⟩
      rw [if_neg (by decide)]
      refine ⟨_, _, hts, atI_nat (j := 2) rfl, _, _, hts, atI_nat (j := 1) rfl, sz100 (by decide), fun p1 hp1 => ?_⟩
      have S1 := same_upd (o := .lst [V.int i]) hp1
      have E1 : upd H p1 (.lst [V.int i]) p1 = some (.lst [V.int i]) := upd_same
      generalize upd H p1 (.lst [V.int i]) = H1 at S1 E1 ⊢
      refine ⟨_, _, S1.seq hq, SqL.of E1, sz100 (by simp; omega), fun p2 hp2 => ?_⟩
      have U2 := same_upd (o := .lst (dark.map V.int ++ [V.int i])) hp2
      have E2 : upd H1 p2 (.lst (dark.map V.int ++ [V.int i])) p2 = some (.lst ((dark ++ [i]).map V.int)) := by rw [upd_same, List.map_append]; rfl
      generalize upd H1 p2 (.lst (dark.map V.int ++ [V.int i])) = H2 at U2 E2 ⊢
      have S2 := S1.trans U2
      refine ⟨x, b, v2, c, p, p2, lit, dark ++ [i], rfl, hx.same S2, hb, h2.same S2, hc, S2.seq hp, SqL.of E2, by omega, by rw [List.length_append, List.length_singleton]; omega, by omega, fun H3 r ns S3 hr hns => ?_⟩
      walk_at "wp"
      have S3 := S2.trans S3
      refine ⟨_, _, Same.tup S3 hts, atI_nat (j := 3) rfl, _, _, Same.tup S3 hts, atI_nat (j := 1) rfl, sz100 (by decide), fun p4 hp4 => ?_⟩
      have U4 := same_upd (o := .lst [V.int i]) hp4
      have E4 : upd H3 p4 (.lst [V.int i]) p4 = some (.lst [V.int i]) := upd_same
      generalize upd H3 p4 (.lst [V.int i]) = H4 at U4 E4 ⊢
      have S4 := S3.trans U4
      refine ⟨_, _, S4.seq hp, SqL.of E4, sz100 (by simp; omega), fun p5 hp5 => ?_⟩
      have U5 := same_upd (o := .lst (lit.map V.int ++ [V.int i])) hp5
      have E5 : upd H4 p5 (.lst (lit.map V.int ++ [V.int i])) p5 = some (.lst ((lit ++ [i]).map V.int)) := by rw [upd_same, List.map_append]; rfl
      generalize upd H4 p5 (.lst (lit.map V.int ++ [V.int i])) = H5 at U5 E5 ⊢
      have S5 := S4.trans U5
      have U35 := U4.trans U5
      refine ⟨x, b, v3, e, p5, q', lit ++ [i], dark, rfl, hx.same S5, hb, h3.same S5, he, SqL.of E5, S5.seq hq, by rw [List.length_append, List.length_singleton]; omega, by omega, by omega, fun H6 r2 ns2 S6 hr2 hns2 => ?_⟩
      have hp10 : 2 ^ m ≤ 2 ^ 10 := Nat.pow_le_pow_right (by decide) (by omega)
      have e10 : 2 ^ 10 = 1024 := by decide
      walk_at "wp"
      refine ⟨_, _, (U35.trans S6).seq hr, hr2, sz100 (by rw [List.length_map, List.length_map]; omega), fun p7 hp7 => ?_⟩
      rw [← List.map_append]
      exact q _ p7 (ns ++ ns2) ((S5.trans S6).trans (same_upd hp7)) (SqL.of upd_same) (by rw [List.length_append, Nat.pow_succ]; omega)
theorem ok_leavesK {f : Addr} {fd : FuncData} (F : Fun K "_law_leaves" "_law_leaves" s_leaves f fd) (B : Bi mg) (D_bottom_l : Def P w K mg base "_law_bottom" 3 ["_law_bakery", "_law_prices", "_law_lit", "_law_dark"] (spBottom K)) (hm : mg "_law_leaves" = some (.ref f)) (hk : PySem.W.keepIn K (.ref f) = true) (hb : Binds K fd ["_law_bakery", "_law_tree", "_law_lit", "_law_dark"] []) : ∀ n : Nat, FnOk P w K mg base CX0 (3 + n + 1) f fd ["_law_bakery", "_law_tree", "_law_lit", "_law_dark"] (spLvs K n)
  | 0 => ok_leavesS F B D_bottom_l (sp := fun _ _ _ _ => False) ⟨_, _, hm, hk, hb, ⟨fun _ _ _ _ h => h.elim, fun _ _ _ _ _ _ _ _ _ _ _ _ _ h => h.elim⟩⟩ (.inl rfl)
  | n + 1 => ok_leavesS F B D_bottom_l ⟨_, _, hm, hk, hb, ok_leavesK F B D_bottom_l hm hk hb n⟩ (.inr ⟨n, rfl, rfl⟩)
theorem ok_leaves {f : Addr} {fd : FuncData} (F : Fun K "_law_leaves" "_law_leaves" s_leaves f fd) (B : Bi mg) (D_bottom_l : Def P w K mg base "_law_bottom" 3 ["_law_bakery", "_law_prices", "_law_lit", "_law_dark"] (spBottom K)) (hm : mg "_law_leaves" = some (.ref f)) (hk : PySem.W.keepIn K (.ref f) = true) (hb : Binds K fd ["_law_bakery", "_law_tree", "_law_lit", "_law_dark"] []) : FnOk P w K mg base CX0 8 f fd ["_law_bakery", "_law_tree", "_law_lit", "_law_dark"] (spLvs K 4) := ok_leavesK F B D_bottom_l hm hk hb 4
end
end Bk

namespace Bk
open PySem PySem.Spec PyProof.Rows L2
local macro_rules | `(tactic| walk_at "wp") => `(tactic| try simp only [rEqNT_r, tChain3, rGtT_r, tRaise1f, rSorTL_r, rSorTR_r, tCKw, tLc2_eq, rIntS_r, rLenS_r, rIxS_r, rInS_r, rSplit_r, iStr_eq, rNewStrs, iRng3_eq, rRng3_i, tM1, tFmt, iLT, tAugS, tScT2, rSetL_r, rSetOf2_r, rSorDT_r, rSetD, tDGet2, tDGet, tDNewT, rExtend_r, rSortU_r, rSetOf_r, rSortedSet_r, rNinr_r, rNeN_r, rCatL_r, rSlT_r, rListOf_r, rIsB_b, rNotB_b, tFmtO, tJs, tOst, tCallS, WE, tRaise2, rOne_i, rSorD_r, tDNewK, Int.zero_add, tNever, tFor_eq, tLc_eq, iList, iTup, iRng1_eq, rRng1_i, iRng2_eq, rRng2_i, iEnum_eq, rEnum_r, iZip_eq, rZip_r, tSl, tPart, tNoPart, rSlL_r, rCat_r, rIn_r, rNin_r, rRepr_r, iRevR, rMin_r, rShr_i, rOdd_i, rSetL_r, gSub, rRg1_i, rRg2_i, rInr_r, tAug, ipI_ii, tLstRg, tRg1, tRg2, gTup_r, gUnl_r, rInt1_b, rInt1_i, rRep_r, tStep_r, scal, tSeq, tNext, tAsg, tRet, tRetN, tIfS, tDrop, tCB, tCons, tNil, tVar, tOp, tUn, tC, rU_i, rI_ii, rI0_ii, rEq, rNe, tTest, tB, tAnd, tOr, tNot, tAndV, tOrV, tNotV, tIf, tChain, tLst, tTup, tBM, tBM0, rAppend_r, rIxL_r, rIxT_r, rMx_ii, rMn_ii, rLnL_r, rLnT_r, rIsD_int, rIsD_bool, rIsD_list, rIsD_tuple, tCall, gName, gNil_n, gCons_c, cxK, L2.start, List.map, List.replicate, List.length_cons, List.length_nil, List.cons_append, List.nil_append, List.append_nil, List.getElem?_cons_zero, List.getElem?_cons_succ, Option.some.injEq, exists_eq_left', exists_eq_left, V.int.injEq, V.bl.injEq, V.str.injEq, V.ref.injEq, List.cons.injEq, and_true, true_and, and_self, List.set, wipe, rAll_r, rSum_r, reduceCtorEq, decide_true, decide_false, reduceIte, ite_true, ite_false, if_true, if_false, Bool.false_eq_true, Bool.not_true, Bool.not_false])
local macro_rules | `(tactic| walk_at "shaped") => `(tactic| (simp only [rGtT_r, SeqAt.shaped, PyData.canLay0, PyData.canLayAll0, PyData.depth, PyData.depthAll]; rfl))
local macro_rules | `(tactic| walk_at "lay") => `(tactic| (simp only [rGtT_r, PyData.canLay0, PyData.canLayAll0]; rfl))
local macro_rules | `(tactic| walk_at "wg") => `(tactic| try simp only [gName, gTup_r, gCons_c, gNil_n, cxK, List.set, List.cons.injEq, and_true, true_and, exists_eq_left', exists_eq_left, List.length_cons, List.length_nil])
section
variable {P : Program} {w : World} {K : PySem.W.Frag} {mg : Str → Option Value} {base : Heap}
abbrev s_odd : Stmt := top 58
theorem sc_odd : FnScope ["_law_digit", "_law_some"] ["_law_digit"] (defScope s_odd) := ⟨rfl, rfl, rfl, by decide +kernel, rfl, by decide +kernel, by decide +kernel⟩
def spOdd (K : PySem.W.Frag) : Sp := fun vs H Q _ => ∃ i : Int, vs = [.int i] ∧ ∀ H' y, Same H H' → zAny K 70 1 H' y → Q y H'
theorem ok_odd {f : Addr} {fd : FuncData} (F : Fun K "_law_odd" "_law_odd" s_odd f fd) : FnOk P w K mg base CX0 1 f fd ["_law_digit"] (spOdd K) := by
  refine F.ok sc_odd (fun vs H Q E h => ?_) (fun cdv A outer s H vs Q E hr h => ?_)
  · obtain ⟨_, rfl, _⟩ := h
    rfl
  · obtain ⟨i, rfl, q⟩ := h
    refine ⟨_, (pss_cons (ps_set (i := 1) sc_odd.nd rfl (Or.inl rfl) (pe_lst (pa_cons pe_non (pa_cons pe_bl (pa_cons pe_bl (pa_cons (pe_un un_neg pe_int) (pa_cons pe_int (pa_cons pe_int (pa_cons pe_int (pa_cons pe_int (pa_cons (pe_op op_pow pe_int pe_int) (pa_cons (pe_op op_add (pe_op op_pow pe_int pe_int) pe_int) (pa_cons (pe_op op_pow pe_int pe_int) (pa_cons pe_str (pa_cons pe_str (pa_cons (pe_lst pa_nil) (pa_cons (pe_lst (pa_cons pe_int pa_nil)) (pa_cons (pe_tup pa_nil) (pa_cons (pe_tup (pa_cons pe_int pa_nil)) (pa_cons pe_dnewK pa_nil))))))))))))))))))))
 (pss_one (ps_ret (pe_ix ix_list (pv 1) (pe_op op_mod (pv 0) pe_int) (fun _ _ => rfl))))), ?_⟩
    have hb : ∀ i : Int, i = 10 ^ Int.toNat 9 → i.natAbs < 10 ^ 60 := fun i e => by rw [e]; decide
    have hc : ∀ i : Int, i = 10 ^ Int.toNat 59 → i.natAbs < 10 ^ 60 := fun i e => by rw [e]; decide
    have hd : ∀ i : Int, i = 1000000001 → i.natAbs < 10 ^ 60 := fun i e => by rw [e]; decide
    have hn : ∀ i : Int, i = -1 → i.natAbs < 10 ^ 60 := fun i e => by rw [e]; decide
    refine s_asg (ze_lst (K := K) 70 1 (za_cons ze_cn (za_cons ze_cb (za_cons ze_cb (za_cons ((ye_neg (ye_i (P := fun i => i = 1) rfl) (P' := fun i => i = -1) (fun i e => by rw [e])).zint hn) (za_cons ze_ci (za_cons ze_ci (za_cons ze_ci (za_cons ze_ci (za_cons ((ye_pw ⟨by decide, by decide, by decide⟩).zint hb) (za_cons ((ye_I0 (P := fun z => z = 1000000001) (ye_pw ⟨by decide, by decide, by decide⟩) (ye_i (P := fun i => i = 1) rfl) (fun i j e1 e2 => by rw [e1, e2]; decide)).zint hd) (za_cons ((ye_pw ⟨by decide, by decide, by decide⟩).zint hc) (za_cons ze_cs (za_cons ze_cs (za_cons (ze_lst 0 0 za_nil).zlstE (za_cons (ze_lst 61 0 (za_cons ze_ci za_nil)).zlstE (za_cons (ze_tup 0 0 za_nil).ztup (za_cons (ze_tup 61 0 (za_cons ze_ci za_nil)).ztup (za_cons ze_dict za_nil))))))))))))))))))) (fun H2 y S2 h2 => ?_)
    exact s_ret (ze_ixE (ye_var zgrow_lstE rfl h2) (ye_mod (ye_vI (P := fun _ => True) rfl trivial) (by decide))) (fun H3 z S3 h3 => q _ _ (S2.trans S3) h3)
theorem ye_odd {te : TE} {σ : L2.St} {H : Hp} {P : Int → Prop} (h : Ye (IntD P) te σ H) : Ye (zAny K 70 1) (tCall (spOdd K) [] E0 (tCons te tNil)) σ H := fun H1 S Q q => h H1 S _ fun H2 y S2 ⟨i, e, _⟩ => ⟨i, by rw [e]; rfl, fun H3 z S3 r => q H3 z (S2.trans S3) r⟩
abbrev s_prices_bent : Stmt := top 68
theorem sc_prices_bent : FnScope ["_law_rows", "_law_digits", "_law_at", "_law_row", "_law_place", "_law_some"] ["_law_rows", "_law_digits"] (defScope s_prices_bent) := ⟨rfl, rfl, rfl, by decide +kernel, rfl, by decide +kernel, by decide +kernel⟩
/-- rows of whole numbers, so many and so long -/
def RowsZ (K : PySem.W.Frag) (n m : Nat) : Hp → V → Prop := fun H y => ∃ ds, ds.length = n ∧ Th K H y (.list ds) ∧ ∀ d ∈ ds, ∃ es, d = .list es ∧ es.length = m ∧ ∀ e ∈ es, Szd 61 0 e
theorem grow_rowsZ {n m : Nat} : Grow (RowsZ K n m) := fun _ _ _ S ⟨ds, e, t, h⟩ => ⟨ds, e, t.same S, h⟩
theorem rowsZ_szd {m : Nat} {ds : List PyData} (hm : m ≤ 6) (h : ∀ d ∈ ds, ∃ es, d = .list es ∧ es.length = m ∧ ∀ e ∈ es, Szd 61 0 e) : ∀ d ∈ ds, Szd 1000 2 d := fun d hd => by
  obtain ⟨es, rfl, h1, h2⟩ := h d hd
  exact (sm_list (n := 6) (by omega) h2).mono (by decide) (by decide)
theorem RowsZ.lst {n m : Nat} {H : Hp} {y : V} (h : RowsZ K n m H y) (hn : n ≤ 2) (hm : m ≤ 6) : zLst K 2 1000 2 H y := h.elim fun ds ⟨e, t, s⟩ => ⟨ds, by omega, t, rowsZ_szd hm s⟩
theorem RowsZ.lstE {n m : Nat} {H : Hp} {y : V} (h : RowsZ K n m H y) (hm : m ≤ 6) : zLstE K n 1000 2 H y := h.elim fun ds ⟨e, t, s⟩ => ⟨ds, e, t, rowsZ_szd hm s⟩
theorem ye_ixRow {n m : Nat} {σ : L2.St} {H : Hp} {ta tb : TE} (ha : Ye (RowsZ K n m) ta σ H) (hb : Ye (IntD fun i => 0 ≤ i ∧ i < (n : Int)) tb σ H) : Ye (zLstE K m 61 0) (tOp (rIxL K) ta tb) σ H := by
  refine fun H1 S Q q => ha H1 S _ fun H2 y S2 ⟨ds, e, t, hd⟩ => hb H2 (S.trans S2) _ fun H3 z S3 ⟨j, e2, p1, p2⟩ => ?_
  subst e2
  have t3 := t.same S3
  cases t3 with
  | @lst a xs _ hs ha =>
    have hl := ha.length
    have hj : xs[j.toNat]? = some xs[j.toNat] := List.getElem?_eq_getElem (by omega)
    obtain ⟨d, hd1, hd2⟩ := ha.get hj
    obtain ⟨es, rfl, hes, hsz⟩ := hd d (List.mem_of_getElem? hd1)
    exact ⟨a, xs, j, _, rfl, rfl, hs, atI_of p1 hj, q H3 _ (S2.trans S3) ⟨es, hes, hd2, hsz⟩⟩
def DigB (K : PySem.W.Frag) (d0 d1 d2 : Int) (H : Hp) (y : V) : Prop := ∃ pd, y = .ref pd ∧ SqL K H pd (([d0, d1, d2] : List Int).map V.int)
theorem grow_digB {d0 d1 d2 : Int} : Grow (DigB K d0 d1 d2) := fun _ _ _ S ⟨a, e, h⟩ => ⟨a, e, S.seq h⟩
theorem ye_digB0 {σ : L2.St} {H : Hp} {y : V} {k : Nat} {d0 d1 d2 : Int} (e : σ[k]? = some (some y)) (h : DigB K d0 d1 d2 H y) : Ye (IntD fun z => z = d0) (tOp (rIxL K) (tVar k) (tC (.int 0))) σ H := by
  obtain ⟨pd, rfl, hs⟩ := h
  exact ye_dig (i := 0) e hs rfl
theorem ye_digB1 {σ : L2.St} {H : Hp} {y : V} {k : Nat} {d0 d1 d2 : Int} (e : σ[k]? = some (some y)) (h : DigB K d0 d1 d2 H y) : Ye (IntD fun z => z = d1) (tOp (rIxL K) (tVar k) (tC (.int 1))) σ H := by
  obtain ⟨pd, rfl, hs⟩ := h
  exact ye_dig (i := 1) e hs rfl
def spPrB (K : PySem.W.Frag) : Sp := fun vs H Q _ => ∃ x y n m d0 d1 d2, vs = [x, y] ∧ RowsZ K n m H x ∧ 1 ≤ n ∧ n ≤ 2 ∧ 1 ≤ m ∧ m ≤ 6 ∧ DigB K d0 d1 d2 H y ∧ 0 ≤ d0 ∧ d0 < 8 ∧ ∀ H' y, Same H H' → zAny K 5100 3 H' y → Q y H'
theorem ok_prices_bent {f : Addr} {fd : FuncData} (F : Fun K "_law_prices_bent" "_law_prices_bent" s_prices_bent f fd) (B : Bi mg) (D_odd : Def P w K mg base "_law_odd" 1 ["_law_digit"] (spOdd K)) : FnOk P w K mg base CX0 2 f fd ["_law_rows", "_law_digits"] (spPrB K) := by
  refine F.ok sc_prices_bent (fun vs H Q E h => ?_) (fun cdv A outer s H vs Q E hr h => ?_)
  · obtain ⟨_, _, _, _, _, _, _, rfl, _⟩ := h
    rfl
  · obtain ⟨x, y, n, m, d0, d1, d2, rfl, hx, n1, n2, m1, m2, hy, b0, b1, q⟩ := h
    refine ⟨_, (pss_cons (ps_set (i := 2) sc_prices_bent.nd rfl (Or.inl rfl) (pe_op op_mod (pe_ix ix_list (pv 1) pe_int (fun _ _ => rfl)) (pe_callB call_lnL (by rfl) B.len (by decide +kernel) (pa_cons (pv 0) pa_nil))))
 (pss_cons (ps_set (i := 3) sc_prices_bent.nd rfl (Or.inl rfl) (pe_ix ix_list (pv 0) (pv 2) (fun _ _ => rfl)))
 (pss_cons (ps_set (i := 4) sc_prices_bent.nd rfl (Or.inl rfl) (pe_op op_mod (pe_ix ix_list (pv 1) pe_int (fun _ _ => rfl)) (pe_callB call_lnL (by rfl) B.len (by decide +kernel) (pa_cons (pv 3) pa_nil))))
 (pss_cons (ps_set (i := 5) sc_prices_bent.nd rfl (Or.inl rfl) (pe_lst (pa_cons (pe_op op_catL (pe_op op_catL (pe_slice sl_list (pv 3) po_none (po_some (pv 4))) (pe_lst (pa_cons (pe_callD D_odd hr (by rfl) (pa_cons (pe_ix ix_list (pv 1) pe_int (fun _ _ => rfl)) pa_nil)) pa_nil))) (pe_slice sl_list (pv 3) (po_some (pe_op op_add (pv 4) pe_int)) po_none)) (pa_cons (pe_slice sl_list (pv 3) po_none (po_some (pe_un un_neg pe_int))) (pa_cons (pe_op op_catL (pv 3) (pe_lst (pa_cons pe_int pa_nil))) (pa_cons (pe_callTy call_tupOf (by rfl) B.tuple (by decide +kernel) (pa_cons (pv 3) pa_nil)) (pa_cons pe_non pa_nil)))))))
 (pss_cons (ps_if (pt_cmpR op_lt (pe_ix ix_list (pv 1) pe_int (fun _ _ => rfl)) pe_int (nomark _)) (pss_one (ps_ret (pe_op op_catL (pe_op op_catL (pe_slice sl_list (pv 0) po_none (po_some (pv 2))) (pe_lst (pa_cons (pe_ix ix_list (pv 5) (pe_ix ix_list (pv 1) pe_int (fun _ _ => rfl)) (fun _ _ => rfl)) pa_nil))) (pe_slice sl_list (pv 0) (po_some (pe_op op_add (pv 2) pe_int)) po_none)))) pss_nil)
 (pss_one (ps_ret (pe_ix ix_list (pe_lst (pa_cons (pe_slice sl_list (pv 0) po_none (po_some (pe_un un_neg pe_int))) (pa_cons (pe_op op_catL (pv 0) (pe_slice sl_list (pv 0) po_none (po_some pe_int))) (pa_cons (pe_callTy call_tupOf (by rfl) B.tuple (by decide +kernel) (pa_cons (pv 0) pa_nil)) pa_nil)))) (pe_op op_sub (pe_ix ix_list (pv 1) pe_int (fun _ _ => rfl)) pe_int) (fun _ _ => rfl))))))))), ?_⟩
    refine s_asg (ze_modE (ye_digB0 rfl hy) (ze_len (ye_var zgrow_lstE rfl (hx.lstE m2))) (by omega)) (fun H2 j S2 hj => ?_)
    obtain ⟨j, rfl, hj⟩ := hj
    have hx2 := grow_rowsZ _ _ _ S2 hx
    have hy2 := grow_digB _ _ _ S2 hy
    refine s_asg (ye_ixRow (ye_var grow_rowsZ rfl hx2) (ye_vI rfl hj)) (fun H3 r S3 hr => ?_)
    have hx3 := grow_rowsZ _ _ _ S3 hx2
    have hy3 := grow_digB _ _ _ S3 hy2
    have S23 := S2.trans S3
    refine s_asg (ze_modE (ye_digB1 rfl hy3) (ze_len (ye_var zgrow_lstE rfl hr)) (by omega)) (fun H4 k S4 hk => ?_)
    obtain ⟨k, rfl, hk⟩ := hk
    have hx4 := grow_rowsZ _ _ _ S4 hx3
    have hy4 := grow_digB _ _ _ S4 hy3
    have hr4 := zgrow_lstE _ _ _ S4 hr
    have S24 := S23.trans S4
    have hr6 : zLst K 6 61 0 H4 r := hr4.elim fun ds ⟨e, t, s⟩ => ⟨ds, by omega, t, s⟩
    have hrz : zLst K 6 70 1 H4 r := hr4.elim fun ds ⟨e, t, s⟩ => ⟨ds, by omega, t, fun d hd => (s d hd).mono (by decide) (by decide)⟩
    refine s_asg (ze_lst (K := K) 1000 2 (za_cons (ze_catL (ze_catL (ze_slL (ye_var zgrow_lst rfl hrz) yo_none (yo_some (ye_vI (P := fun _ => True) rfl trivial))) (ze_lst 70 1 (za_cons (ye_odd (ye_digB1 rfl hy4)) za_nil)).zexact) (ze_slL (ye_var zgrow_lst rfl hrz) (yo_some (ye_add (ye_vI (P := fun _ => True) rfl trivial) (ye_i (P := fun _ => True) trivial))) yo_none)).zlst
      (za_cons (ze_slL (ye_var zgrow_lst rfl hr6) yo_none (yo_some (ye_neg (ye_i (P := fun _ => True) trivial) (P' := fun _ => True) (fun _ _ => trivial)))).zlst
      (za_cons (ze_catL (ye_var zgrow_lst rfl hr6) (ze_lst 61 0 (za_cons ze_ci za_nil)).zexact).zlst (za_cons (ze_tupOf (ye_var zgrow_lst rfl hr6)).ztup (za_cons ze_cn za_nil)))))) (fun H5 so S5 h5 => ?_)
    have hx5 := (grow_rowsZ _ _ _ S5 hx4)
    have hy5 := grow_digB _ _ _ S5 hy4
    have S25 := S24.trans S5
    refine s_ifQ (yq_cmp (g := fun i j => decide (i < j)) (a := d0) (b := 5) (ye_digB0 rfl hy5) (ye_i rfl)) (fun g H6 S6 => ?_) (fun g H6 S6 => ?_)
    all_goals
      have hx6 := (grow_rowsZ _ _ _ S6 hx5).lst n2 m2
      have hy6 := grow_digB _ _ _ S6 hy5
      have h6 := zgrow_lstE _ _ _ S6 h5
      have S26 := S25.trans S6
    · have g := of_decide_eq_true g
      exact s_ret (ze_catL (ze_catL (ze_slL (ye_var zgrow_lst rfl hx6) yo_none (yo_some (ye_vI (P := fun _ => True) rfl trivial))) (ze_lst 1000 2 (za_cons (ze_ixE (m := 5) (ye_var zgrow_lstE rfl h6) ((ye_digB0 rfl hy6).weak fun _ _ ⟨i, e, z⟩ => ⟨i, e, by omega, by omega⟩)) za_nil)).zexact) (ze_slL (ye_var zgrow_lst rfl hx6) (yo_some (ye_add (ye_vI (P := fun _ => True) rfl trivial) (ye_i (P := fun _ => True) trivial))) yo_none)).zlst.zup (fun H7 z S7 h7 => q _ _ (S26.trans S7) h7)
    · have g := of_decide_eq_false g
      exact s_ret (ze_ixE (m := 3) (ze_lst 5100 3 (za_cons (ze_slL (ye_var zgrow_lst rfl hx6) yo_none (yo_some (ye_neg (ye_i (P := fun _ => True) trivial) (P' := fun _ => True) (fun _ _ => trivial)))).zlst (za_cons (ze_catL (ye_var zgrow_lst rfl hx6) (ze_slL (ye_var zgrow_lst rfl hx6) yo_none (yo_some (ye_i (P := fun _ => True) trivial)))).zlst (za_cons (ze_tupOf (ye_var zgrow_lst rfl hx6)).ztup za_nil)))) (ye_I0 (ye_digB0 rfl hy6) (ye_i (P := fun i => i = 5) rfl) (fun i j e1 e2 => by omega))) (fun H7 z S7 h7 => q _ _ (S26.trans S7) h7)
end
end Bk

namespace Bk
open PySem PySem.Spec PyProof.Rows L2
local macro_rules | `(tactic| walk_at "wp") => `(tactic| try simp only [rEqNT_r, tChain3, rGtT_r, tRaise1f, rSorTL_r, rSorTR_r, tCKw, tLc2_eq, rIntS_r, rLenS_r, rIxS_r, rInS_r, rSplit_r, iStr_eq, rNewStrs, iRng3_eq, rRng3_i, tM1, tFmt, iLT, tAugS, tScT2, rSetL_r, rSetOf2_r, rSorDT_r, rSetD, tDGet2, tDGet, tDNewT, rExtend_r, rSortU_r, rSetOf_r, rSortedSet_r, rNinr_r, rNeN_r, rCatL_r, rSlT_r, rListOf_r, rIsB_b, rNotB_b, tFmtO, tJs, tOst, tCallS, WE, tRaise2, rOne_i, rSorD_r, tDNewK, Int.zero_add, tNever, tFor_eq, tLc_eq, iList, iTup, iRng1_eq, rRng1_i, iRng2_eq, rRng2_i, iEnum_eq, rEnum_r, iZip_eq, rZip_r, tSl, tPart, tNoPart, rSlL_r, rCat_r, rIn_r, rNin_r, rRepr_r, iRevR, rMin_r, rShr_i, rOdd_i, rSetL_r, gSub, rRg1_i, rRg2_i, rInr_r, tAug, ipI_ii, tLstRg, tRg1, tRg2, gTup_r, gUnl_r, rInt1_b, rInt1_i, rRep_r, tStep_r, scal, tSeq, tNext, tAsg, tRet, tRetN, tIfS, tDrop, tCB, tCons, tNil, tVar, tOp, tUn, tC, rU_i, rI_ii, rI0_ii, rEq, rNe, tTest, tB, tAnd, tOr, tNot, tAndV, tOrV, tNotV, tIf, tChain, tLst, tTup, tBM, tBM0, rAppend_r, rIxL_r, rIxT_r, rMx_ii, rMn_ii, rLnL_r, rLnT_r, rIsD_int, rIsD_bool, rIsD_list, rIsD_tuple, tCall, gName, gNil_n, gCons_c, cxK, L2.start, List.map, List.replicate, List.length_cons, List.length_nil, List.cons_append, List.nil_append, List.append_nil, List.getElem?_cons_zero, List.getElem?_cons_succ, Option.some.injEq, exists_eq_left', exists_eq_left, V.int.injEq, V.bl.injEq, V.str.injEq, V.ref.injEq, List.cons.injEq, and_true, true_and, and_self, List.set, wipe, rAll_r, rSum_r, reduceCtorEq, decide_true, decide_false, reduceIte, ite_true, ite_false, if_true, if_false, Bool.false_eq_true, Bool.not_true, Bool.not_false])
local macro_rules | `(tactic| walk_at "shaped") => `(tactic| (simp only [rGtT_r, SeqAt.shaped, PyData.canLay0, PyData.canLayAll0, PyData.depth, PyData.depthAll]; rfl))
local macro_rules | `(tactic| walk_at "lay") => `(tactic| (simp only [rGtT_r, PyData.canLay0, PyData.canLayAll0]; rfl))
local macro_rules | `(tactic| walk_at "wg") => `(tactic| try simp only [gName, gTup_r, gCons_c, gNil_n, cxK, List.set, List.cons.injEq, and_true, true_and, exists_eq_left', exists_eq_left, List.length_cons, List.length_nil])
section
variable {P : Program} {w : World} {K : PySem.W.Frag} {mg : Str → Option Value} {base : Heap}
abbrev s_bent : Stmt := top 69
theorem sc_bent : FnScope ["_law_tree", "_law_digits", "_law_at", "_law_odd_here", "_law_some"] ["_law_tree", "_law_digits"] (defScope s_bent) := ⟨rfl, rfl, rfl, by decide +kernel, rfl, by decide +kernel, by decide +kernel⟩
/-- signs that a part of a drawn tree takes at most -/
def eSz : Nat → Nat
  | 0 => 800
  | n + 1 => 4 * (eSz n + 2) + 3
theorem eSz_ge (n : Nat) : 800 ≤ eSz n := by
  induction n with
  | zero => exact Nat.le_refl _
  | succ n ih => unfold eSz; omega
theorem sm_word {z : Str} (h : (PyData.str z).shown.length ≤ 10 := by decide +kernel) : Szd 10 0 (.str z) := ⟨rfl, h, by simp only [PyData.depth, Nat.le_refl]⟩
theorem sm_pricesD {b : Bak} {W : List (List Int)} (hl : b.lights.length ≤ 6) (hg : b.goods.length ≤ 2) (hW : PrOk b W) (hs : PrS W) : Szd 800 2 (pricesD W) := by
  refine (sm_list (n := 2) (l := 381) (j := 1) (by rw [List.length_map, hW.1]; exact hg) fun d hd => ?_).mono (by decide) (by decide)
  obtain ⟨w, hw, rfl⟩ := List.mem_map.mp hd
  refine (sm_list (n := 6) (l := 61) (j := 0) (by rw [List.length_map, hW.2 w hw]; exact hl) fun e he => ?_).mono (by decide) (by decide)
  obtain ⟨z, hz, rfl⟩ := List.mem_map.mp he
  exact sm_int (Nat.lt_trans (hs w hw z hz) (by decide))
theorem DT.parts {b : Bak} (hl : b.lights.length ≤ 6) (hg : b.goods.length ≤ 2) {n : Nat} {d : PyData} (h : DT b n d) : ∃ z r, d = .tuple (.str z :: r) ∧ 1 ≤ r.length ∧ r.length ≤ 3 ∧ ∀ e ∈ PyData.str z :: r, Szd (eSz n) (n + 2) e := by
  induction h with
  | @prices n W hW hs =>
    have := eSz_ge n
    refine ⟨_, _, rfl, by simp, by simp, fun e he => ?_⟩
    rcases List.mem_cons.mp he with rfl | he
    · exact Szd.mono sm_word (by omega) (by omega)
    · rw [List.mem_singleton.mp he]
      exact (sm_pricesD hl hg hW hs).mono (by omega) (by omega)
  | @stretch n i j h1 h2 h3 h4 =>
    have := eSz_ge n
    refine ⟨_, _, rfl, by simp, by simp, fun e he => ?_⟩
    rcases List.mem_cons.mp he with rfl | he
    · exact Szd.mono sm_word (by omega) (by omega)
    rcases List.mem_cons.mp he with rfl | he
    · exact (sm_int (by omega)).mono (by omega) (by omega)
    · rw [List.mem_singleton.mp he]
      exact (sm_int (by omega)).mono (by omega) (by omega)
  | @split n i c e i0 i1 hc he ic ie =>
    have := eSz_ge (n + 1)
    have up : ∀ {d : PyData}, (∃ z r, d = .tuple (.str z :: r) ∧ 1 ≤ r.length ∧ r.length ≤ 3 ∧ ∀ e ∈ PyData.str z :: r, Szd (eSz n) (n + 2) e) → Szd (eSz (n + 1)) (n + 1 + 2) d := fun ⟨z, r, e, _, hr, hs⟩ => by
      rw [e]
      exact (sm_tuple (n := 4) (by rw [List.length_cons]; omega) hs).mono (Nat.le_refl _) (by omega)
    refine ⟨_, _, rfl, by simp, by simp, fun x hx => ?_⟩
    rcases List.mem_cons.mp hx with rfl | hx
    · exact Szd.mono sm_word (by omega) (by omega)
    rcases List.mem_cons.mp hx with rfl | hx
    · exact (sm_int (by omega)).mono (by omega) (by omega)
    rcases List.mem_cons.mp hx with rfl | hx
    · exact up ic
    · rw [List.mem_singleton.mp hx]
      exact up ie
theorem DT.szd {b : Bak} (hl : b.lights.length ≤ 6) (hg : b.goods.length ≤ 2) {n : Nat} {d : PyData} (h : DT b n d) : Szd (eSz (n + 1)) (n + 3) d := by
  obtain ⟨z, r, rfl, _, hr, hs⟩ := h.parts hl hg
  exact (sm_tuple (n := 4) (by rw [List.length_cons]; omega) hs).mono (Nat.le_refl _) (by omega)
theorem deep_of : ∀ {n : Nat} {d : PyData}, d.depth ≤ n → Deep n d
  | 0, d, h => by
    cases d with
    | tuple ds => simp only [PyData.depth] at h; omega
    | _ => rfl
  | n + 1, d, h => fun z x c e hd _ => by
    subst hd
    simp only [PyData.depth, PyData.depthAll] at h
    exact ⟨deep_of (by omega), deep_of (by omega)⟩
def ThP (K : PySem.W.Frag) (A : List PyData → Prop) : Hp → V → Prop := fun H y => ∃ ds, A ds ∧ Th K H y (.tuple ds)
theorem xe_catP {A B C : List PyData → Prop} {σ : L2.St} {H : Hp} {ta tb : TE} (ha : Ye (ThP K A) ta σ H) (hb : Ye (ThP K B) tb σ H) (hc : ∀ a b, A a → B b → C (a ++ b) ∧ a.length + b.length ≤ 100000) : Ye (ThP K C) (tOp (rCatA K) ta tb) σ H := by
  refine fun H1 S Q q => ha H1 S _ fun H2 y S2 ⟨ds, pa, t⟩ => hb H2 (S.trans S2) _ fun H3 z S3 ⟨es, pb, t2⟩ => ?_
  obtain ⟨pc, hz⟩ := hc _ _ pa pb
  have t3 := t.same S3
  cases t3 with
  | @tup a xs _ hs ha =>
    cases t2 with
    | @tup b ys _ hs2 ha2 =>
      refine ⟨a, b, xs, ys, rfl, rfl, hs, hs2, sz100 (by rw [ha.length, ha2.length]; exact hz), fun z => q _ _ (S2.trans S3) ⟨_, pc, ?_⟩, fun _ z => q _ _ (S2.trans S3) ⟨_, pc, ?_⟩, fun _ _ p hp => q _ _ ((S2.trans S3).trans (same_upd hp)) ⟨_, pc, .tup (SqT.of upd_same) ((thAll_app2 ha2 ha).same (same_upd hp))⟩⟩
      · subst z
        cases ha
        exact .tup hs2 ha2
      · subst z
        cases ha2
        rw [List.append_nil]
        exact .tup hs ha
theorem xe_up2 {d0 d1 d2 d3 : PyData} {σ : L2.St} {H : Hp} {te : TE} (h : Ye (ThP K fun ds => ds = [d0, d1, d2, d3]) te σ H) : Ye (ThP K fun ds => ds = [d0, d1]) (tSl (rSlA K) te tNoPart (tPart (tC (.int 2)))) σ H := by
  refine fun H1 S Q q => h H1 S _ fun H2 y S2 ⟨ds, pa, t⟩ => ⟨2, rfl, ?_⟩
  subst pa
  cases t with
  | @tup a xs _ hs ha =>
  cases ha with
  | @cons v0 _ _ _ h0 ha => cases ha with
  | @cons v1 _ _ _ h1 ha => cases ha with
  | @cons v2 _ _ _ h2 ha => cases ha with
  | @cons v3 _ _ _ h3 ha =>
  cases ha
  refine ⟨a, _, rfl, hs, fun z => absurd z (by simp only [List.length_cons, List.length_nil]; decide), fun _ p hp => ?_⟩
  rw [show cutV [v0, v1, v2, v3] none (some 2) = [v0, v1] from cutV_upto [v0, v1, v2, v3] 2]
  have S3 := same_upd (o := .tup [v0, v1]) hp
  exact q _ _ (S2.trans S3) ⟨_, rfl, .tup (SqT.of upd_same) (.cons (h0.same S3) (.cons (h1.same S3) .nil))⟩
theorem xe_from3 {d0 d1 d2 d3 : PyData} {σ : L2.St} {H : Hp} {te : TE} (h : Ye (ThP K fun ds => ds = [d0, d1, d2, d3]) te σ H) : Ye (ThP K fun ds => ds = [d3]) (tSl (rSlA K) te (tPart (tC (.int 3))) tNoPart) σ H := by
  refine fun H1 S Q q => h H1 S _ fun H2 y S2 ⟨ds, pa, t⟩ => ⟨3, rfl, ?_⟩
  subst pa
  cases t with
  | @tup a xs _ hs ha =>
  cases ha with
  | @cons v0 _ _ _ h0 ha => cases ha with
  | @cons v1 _ _ _ h1 ha => cases ha with
  | @cons v2 _ _ _ h2 ha => cases ha with
  | @cons v3 _ _ _ h3 ha =>
  cases ha
  refine ⟨a, _, rfl, hs, fun z => absurd z (by simp only [List.length_cons, List.length_nil]; decide), fun _ p hp => ?_⟩
  rw [show cutV [v0, v1, v2, v3] (some 3) none = [v3] from cutV_from [v0, v1, v2, v3] 3]
  have S3 := same_upd (o := .tup [v3]) hp
  exact q _ _ (S2.trans S3) ⟨_, rfl, .tup (SqT.of upd_same) (.cons (h3.same S3) .nil)⟩
theorem xe_tup1 {l j : Nat} {σ : L2.St} {H : Hp} {te : TE} (h : Ye (zAny K l j) te σ H) : Ye (ThP K fun ds => ∃ d, ds = [d] ∧ Szd l j d) (tTup (tCons te tNil)) σ H :=
  fun H1 S Q q => h H1 S _ fun H2 y S2 ⟨d, t, s⟩ => ⟨sz100 (by simp), fun p hp => q _ _ (S2.trans (same_upd hp)) ⟨_, ⟨d, rfl, s⟩, .tup (SqT.of upd_same) (.cons (t.same (same_upd hp)) .nil)⟩⟩
theorem ze_lenT {i : Nat} {p : Addr} {vs : List V} {σ : L2.St} {H : Hp} (e : σ[i]? = some (some (.ref p))) (h : SqT K H p vs) : Ye (IntD fun i => i = (vs.length : Int)) (tCB (rLnT K) (tCons (tVar i) tNil)) σ H :=
  fun H1 S Q q => ⟨_, e, p, vs, rfl, Same.tup S h, q _ _ (Same.refl _) ⟨_, rfl, rfl⟩⟩
/-- a new list, its things beside it -/
def zLstB (K : PySem.W.Frag) (H0 : Hp) (n l j : Nat) : Hp → V → Prop := fun H y => ∃ a xs ds, y = .ref a ∧ H0 a = none ∧ H a = some (.lst xs) ∧ ThAll K (but [a] H) xs ds ∧ ds.length = n ∧ ∀ d ∈ ds, Szd l j d
theorem ze_lstB {n : Nat} {σ : L2.St} {H : Hp} {ts : TA} (l j : Nat) (ha : Ya (zAll K n l j) ts σ H) (hn : n ≤ 100000 := by decide) : Ye (zLstB K H n l j) (tLst ts) σ H :=
  fun H1 S Q q => ha H1 S _ fun H2 ys S2 ⟨ds, e, t, s⟩ => ⟨sz100 (by rw [t.length, e]; exact hn), fun p hp => q _ _ (S2.trans (same_upd hp)) ⟨p, ys, ds, rfl, (by
      cases z : H p with
      | none => rfl
      | some o => rw [(S.trans S2) _ _ z] at hp; cases hp), upd_same, by
    rw [but_upd (by simp)]
    exact t.same fun b o hb => but_at (fun z => by rw [List.mem_singleton.mp z, hp] at hb; cases hb) hb, e, s⟩⟩
theorem yq_and2 {b1 b2 : Bool} {t1 t2 : TT} {σ : L2.St} {H : Hp} (h1 : Yq b1 t1 σ H) (h2 : Yq b2 t2 σ H) : Yq (b1 && b2) (tAnd t1 t2) σ H := fun H1 S Q q => h1 H1 S _ fun H2 S2 => by
  cases b1 with
  | false => exact q _ S2
  | true => exact h2 _ (S.trans S2) _ fun H3 S3 => q _ (S2.trans S3)
theorem yq_head {i : Nat} {p : Addr} {z w : Str} {vs : List V} {σ : L2.St} {H : Hp} (e : σ[i]? = some (some (.ref p))) (h : SqT K H p (.str z :: vs)) : Yq (decide (z = w)) (tTest (tOp rEq (tOp (rIxT K) (tVar i) (tC (.int 0))) (tC (.str w)))) σ H := fun H1 S Q q => by
  refine ⟨_, e, p, _, 0, .str z, rfl, rfl, Same.tup S h, atI_nat (j := 0) rfl, rfl, ?_⟩
  have : decide (V.str z = V.str w) = decide (z = w) := by
    by_cases hz : z = w
    · rw [decide_eq_true hz, decide_eq_true (by rw [hz])]
    · rw [decide_eq_false hz, decide_eq_false (fun y => by injection y with y; exact hz y)]
  rw [this]
  exact ⟨_, rfl, q _ (Same.refl _)⟩
theorem grow_thP {A : List PyData → Prop} : Grow (ThP K A) := fun _ _ _ S ⟨ds, p, t⟩ => ⟨ds, p, t.same S⟩
def spBent (K : PySem.W.Frag) (n : Nat) : Sp := fun vs H Q _ => ∃ x y b d d0 d1 d2, vs = [x, y] ∧ Th K H x d ∧ DT b n d ∧ b.lights.length ≤ 6 ∧ b.goods.length ≤ 2 ∧ 1 ≤ b.lights.length ∧ 1 ≤ b.goods.length ∧ DigB K d0 d1 d2 H y ∧ 0 ≤ d0 ∧ d0 < 8 ∧ ∀ H' y, Same H H' → zAny K (eSz (n + 2)) (n + 4) H' y → Q y H'
theorem ye_bent2 {b : Bak} {a pd : Addr} {σ : L2.St} {H : Hp} {m : Nat} {z : Str} {i d0 d1 d2 : Int} {c e : PyData} (e0 : σ[0]? = some (some (.ref a))) (e1 : σ[1]? = some (some (.ref pd))) (hx : Th K H (.ref a) (.tuple [.str z, .int i, c, e])) (hc : DT b m c) (hl6 : b.lights.length ≤ 6) (hg2 : b.goods.length ≤ 2) (hl1 : 1 ≤ b.lights.length) (hg1 : 1 ≤ b.goods.length) (hy : DigB K d0 d1 d2 H (.ref pd)) (b0 : 0 ≤ d0) (b1 : d0 < 8) :
    Ye (zAny K (eSz (m + 2)) (m + 4)) (tCall (spBent K m) [] E0 (tCons (tOp (rIxT K) (tVar 0) (tC (.int 2))) (tCons (tVar 1) tNil))) σ H := fun H1 S Q q => by
  have hx1 := hx.same S
  cases hx1 with
  | @tup _ xs _ hs ha =>
  cases ha with
  | @cons v0 _ _ _ h0 ha => cases ha with
  | @cons v1 _ _ _ h1 ha => cases ha with
  | @cons v2 _ _ _ h2 ha =>
  exact ⟨_, e0, a, _, 2, v2, rfl, rfl, hs, atI_nat (j := 2) rfl, _, e1, v2, .ref pd, b, c, d0, d1, d2, rfl, h2, hc, hl6, hg2, hl1, hg1, grow_digB _ _ _ S hy, b0, b1, fun H2 y S2 h => q _ _ S2 h⟩
theorem ok_bentS {f : Addr} {fd : FuncData} {n : Nat} {sp : Sp} (F : Fun K "_law_bent" "_law_bent" s_bent f fd) (B : Bi mg) (D_odd : Def P w K mg base "_law_odd" 1 ["_law_digit"] (spOdd K)) (D_prices_bent : Def P w K mg base "_law_prices_bent" 2 ["_law_rows", "_law_digits"] (spPrB K)) (D_bent : Def P w K mg base "_law_bent" (2 + n) ["_law_tree", "_law_digits"] sp) (hsp : n = 0 ∨ ∃ m, n = m + 1 ∧ sp = spBent K m) : FnOk P w K mg base CX0 (2 + n + 1) f fd ["_law_tree", "_law_digits"] (spBent K n) := by
  refine F.ok sc_bent (fun vs H Q E h => ?_) (fun cdv A outer s H vs Q E hr h => ?_)
  · obtain ⟨_, _, _, _, _, _, _, rfl, _⟩ := h
    rfl
  · obtain ⟨x, y, b, d, d0, d1, d2, rfl, hx, hdt, hl6, hg2, hl1, hg1, hy, b0, b1, q⟩ := h
    refine ⟨_, (pss_cons (ps_if (PW.pt (pw_and (pt_cmpR op_eq (pe_ix ix_tup (pv 0) pe_int (fun _ _ => rfl)) pe_str (nomark _)) (pw_and1 (pt_cmpR op_gt (pe_op op_mod (pe_ix ix_list (pv 1) pe_int (fun _ _ => rfl)) pe_int) pe_int (nomark _))))) (pss_one (ps_ret (pe_tup (pa_cons pe_str (pa_cons (pe_callD D_prices_bent hr (by rfl) (pa_cons (pe_ix ix_tup (pv 0) pe_int (fun _ _ => rfl)) (pa_cons (pv 1) pa_nil))) pa_nil))))) pss_nil)
 (pss_cons (ps_set (i := 2) sc_bent.nd rfl (Or.inl rfl) (pe_op op_mod (pe_ix ix_list (pv 1) pe_int (fun _ _ => rfl)) (pe_callB call_lnT (by rfl) B.len (by decide +kernel) (pa_cons (pv 0) pa_nil))))
 (pss_cons (ps_set (i := 3) sc_bent.nd rfl (Or.inl rfl) (pe_callD D_odd hr (by rfl) (pa_cons (pe_ix ix_list (pv 1) pe_int (fun _ _ => rfl)) pa_nil)))
 (pss_cons (ps_if (PW.pt (pw_and (pt_cmpR op_eq (pe_op op_mod (pe_ix ix_list (pv 1) pe_int (fun _ _ => rfl)) pe_int) pe_int (nomark _)) (pw_and1 (pt_cmpR op_eq (pe_ix ix_tup (pv 0) pe_int (fun _ _ => rfl)) pe_str (nomark _))))) (pss_one (ps_ret (pe_op op_catA (pe_op op_catA (pe_slice sl_tupA (pv 0) po_none (po_some pe_int)) (pe_tup (pa_cons (pe_callD D_bent hr (by rfl) (pa_cons (pe_ix ix_tup (pv 0) pe_int (fun _ _ => rfl)) (pa_cons (pv 1) pa_nil))) pa_nil))) (pe_slice sl_tupA (pv 0) (po_some pe_int) po_none)))) pss_nil)
 (pss_cons (ps_set (i := 4) sc_bent.nd rfl (Or.inl rfl) (pe_lst (pa_cons (pe_op op_catA (pe_op op_catA (pe_slice sl_tupA (pv 0) po_none (po_some (pv 2))) (pe_tup (pa_cons (pv 3) pa_nil))) (pe_slice sl_tupA (pv 0) (po_some (pe_op op_add (pv 2) pe_int)) po_none)) (pa_cons (pe_op op_catA (pv 0) (pe_tup (pa_cons (pv 3) pa_nil))) (pa_cons (pe_slice sl_tupA (pv 0) po_none (po_some (pe_un un_neg pe_int))) (pa_cons (pe_callTy call_listOf (by rfl) B.list (by decide +kernel) (pa_cons (pv 0) pa_nil)) (pa_cons (pv 3) (pa_cons (pe_backT (pv 0) po_none po_none (po_some (pe_un un_neg pe_int))) (pa_cons (pe_tup (pa_cons (pv 0) pa_nil)) pa_nil)))))))))
 (pss_cons (ps_expr (pe_bm PySem.F.plainAttrs_list PySem.F.slot_list_append PySem.F.type_list_append mt_append (pv 4) (pa_cons (pe_tup (pa_cons pe_str (pa_cons (pv 2) (pa_cons (pv 0) (pa_cons (pv 0) pa_nil))))) pa_nil)))
 (pss_one (ps_ret (pe_ix ix_list (pv 4) (pe_op op_mod (pe_op op_add (pe_ix ix_list (pv 1) pe_int (fun _ _ => rfl)) (pe_ix ix_list (pv 1) pe_int (fun _ _ => rfl))) pe_int) (fun _ _ => rfl)))))))))), ?_⟩
    obtain ⟨z, r, rfl, r1, r3, hsz⟩ := hdt.parts hl6 hg2
    have hwhole := hdt.szd hl6 hg2
    have hge := eSz_ge n
    have e1 : eSz (n + 1) = 4 * (eSz n + 2) + 3 := rfl
    have e2 : eSz (n + 2) = 4 * (eSz (n + 1) + 2) + 3 := rfl
    have hx0 := hx
    obtain ⟨a, vr, rfl, hts, hva⟩ : ∃ (a : Addr) (vr : List V), x = .ref a ∧ SqT K H a (.str z :: vr) ∧ ThAll K H vr r := by
      cases hx with
      | @tup a xs _ hs ha =>
      cases ha with
      | @cons _ vr _ _ h0 ha =>
      cases h0
      exact ⟨a, vr, rfl, hs, ha⟩
    obtain ⟨pd, rfl, hd⟩ := hy
    have hy : DigB K d0 d1 d2 H (.ref pd) := ⟨pd, rfl, hd⟩
    refine seq1 (fun σ' H' => σ' = [some (.ref a), some (.ref pd), none, none, none] ∧ H' = H) (fun σ1 H1 hm => ?_) (fun N hN => ?_)
    rotate_left
    · walk_at "wp"
      refine ⟨_, _, hts, atI_nat (j := 0) rfl, rfl, ?_⟩
      by_cases hz : z = "prices"
      · rw [if_pos (by rw [decide_eq_true (show V.str z = V.str (Str.ofString "prices") by rw [hz])])]
        refine ⟨_, _, hd, atI_nat (j := 1) rfl, ?_⟩
        walk_at "wp"
        refine ⟨by decide, ?_⟩
        by_cases h3 : 0 < d1 % 3
        · rw [if_pos (by rw [decide_eq_true h3])]
          obtain ⟨W, rfl, hW, hs⟩ : ∃ W, r = [pricesD W] ∧ PrOk b W ∧ PrS W := by
            cases hdt with
            | prices h1 h2 => exact ⟨_, rfl, h1, h2⟩
            | stretch => exact absurd hz (by decide)
            | split => exact absurd hz (by decide)
          obtain ⟨v1, rfl, h1⟩ : ∃ v1, vr = [v1] ∧ Th K H v1 (pricesD W) := by
            cases hva with
            | @cons v1 _ _ _ h1 ha =>
            cases ha
            exact ⟨v1, rfl, h1⟩
          refine ⟨_, _, hts, atI_nat (j := 1) rfl, ?_⟩
          refine ⟨v1, .ref pd, W.length, b.lights.length, d0, d1, d2, rfl, ⟨_, by rw [List.length_map], h1, fun d hd => ?_⟩, by rw [hW.1]; exact hg1, by rw [hW.1]; exact hg2, hl1, hl6, hy, b0, b1, fun H2 v2 S2 h2 => ⟨sz100 (by decide), fun p hp => ?_⟩⟩
          · obtain ⟨w1, hw1, rfl⟩ := List.mem_map.mp hd
            refine ⟨_, rfl, by rw [List.length_map, hW.2 w1 hw1], fun e he => ?_⟩
            obtain ⟨i, hi, rfl⟩ := List.mem_map.mp he
            exact sm_int (Nat.lt_trans (hs w1 hw1 i hi) (by decide))
          · obtain ⟨d2', t2, s2⟩ := h2
            have S3 := same_upd (o := .tup [.str "prices", v2]) hp
            refine q _ _ (S2.trans S3) ⟨_, .tup (SqT.of upd_same) (.cons (.str _) (.cons (t2.same S3) .nil)), (sm_tuple (n := 2) (l := 5100) (j := 3) (by simp) fun e he => ?_).mono (by omega) (by omega)⟩
            rcases List.mem_cons.mp he with rfl | he
            · exact Szd.mono sm_word (by decide) (by decide)
            · rw [List.mem_singleton.mp he]
              exact s2
        · rw [if_neg (by rw [decide_eq_true_eq]; exact h3)]
          exact hN _ _ ⟨rfl, rfl⟩
      · rw [if_neg (by rw [decide_eq_true_eq]; intro e; injection e with e; exact hz e)]
        exact hN _ _ ⟨rfl, rfl⟩
    obtain ⟨rfl, rfl⟩ := hm
    refine s_asg (ye_I (ye_digB0 rfl hy) (ze_lenT rfl hts) (P := fun i => 0 ≤ i ∧ i < 4) (fun i j e1 e2 => by
      have hvl := hva.length
      have hj : 0 < j ∧ j ≤ 4 := by rw [e2, List.length_cons]; omega
      have m1 := Int.emod_nonneg i (show j ≠ 0 by omega)
      have m2 := Int.emod_lt_of_pos i hj.1
      exact ⟨hj.1, m1, by omega⟩)) (fun H2 k S2 hk => ?_)
    obtain ⟨k, rfl, hk0, hk4⟩ := hk
    have hy2 := grow_digB _ _ _ S2 hy
    refine s_asg (ye_odd (ye_digB1 rfl hy2)) (fun H3 o S3 ho => ?_)
    have S23 := S2.trans S3
    have hy3 := grow_digB _ _ _ S3 hy2
    have hd3 := S23.seq hd
    have hts3 := Same.tup S23 hts
    refine s_ifQ (yq_and2 (yq_eq (n := d1 % 2) (m := 0) (ye_I (ye_digB1 rfl hy3) (ye_i (P := fun i => i = 2) rfl) (fun i j e1 e2 => by subst e1 e2; exact ⟨by decide, rfl⟩)) (ye_i rfl)) (yq_head rfl hts3)) (fun g H4 S4 => ?_) (fun _ H4 S4 => ?_)
    · rw [Bool.and_eq_true] at g
      have hz := of_decide_eq_true g.2
      obtain ⟨m, i, c, e, rfl, rfl, hc, he⟩ : ∃ m i c e, n = m + 1 ∧ r = [.int i, c, e] ∧ DT b m c ∧ DT b m e := by
        cases hdt with
        | prices => exact absurd hz (by decide)
        | stretch => exact absurd hz (by decide)
        | split i0 i1 hc he => exact ⟨_, _, _, _, rfl, rfl, hc, he⟩
      rcases hsp with h0 | ⟨m', hm, rfl⟩
      · cases h0
      cases hm
      have S14 := S23.trans S4
      have hx4 : ThP K (fun ds => ds = [.str z, .int i, c, e]) H4 (.ref a) := ⟨_, rfl, hx0.same S14⟩
      have hc4 := ye_bent2 (pd := pd) (m := m) (H := H4) (σ := [some (V.ref a), some (.ref pd), some (.int k), some o, none]) rfl rfl (hx0.same S14) hc hl6 hg2 hl1 hg1 (grow_digB _ _ _ S4 hy3) b0 b1
      refine s_ret (xe_catP (C := fun ds => ∃ x, ds = [.str z, .int i, x, e] ∧ Szd (eSz (m + 2)) (m + 4) x) (xe_catP (C := fun ds => ∃ x, ds = [.str z, .int i, x] ∧ Szd (eSz (m + 2)) (m + 4) x) (xe_up2 (ye_var grow_thP rfl hx4)) (xe_tup1 hc4) (fun a b e1 ⟨x, e2, s⟩ => ⟨⟨x, by rw [e1, e2]; rfl, s⟩, by rw [e1, e2]; simp⟩)) (xe_from3 (ye_var grow_thP rfl hx4)) (fun a b ⟨x, e2, s⟩ e1 => ⟨⟨x, by rw [e1, e2]; rfl, s⟩, by rw [e1, e2]; simp⟩)) (fun H5 y S5 ⟨ds, ⟨x, e5, s⟩, t⟩ => ?_)
      subst e5
      refine q _ _ (S14.trans S5) ⟨_, t, (sm_tuple (n := 4) (l := eSz (m + 2)) (j := m + 4) (Nat.le_refl _) fun x1 hx1 => ?_).mono (Nat.le_refl _) (by omega)⟩
      have g0 := eSz_ge (m + 1)
      have g2 : eSz (m + 2) = 4 * (eSz (m + 1) + 2) + 3 := rfl
      rcases List.mem_cons.mp hx1 with rfl | hx1
      · exact (hsz _ (List.mem_cons_self ..)).mono (by omega) (by omega)
      rcases List.mem_cons.mp hx1 with rfl | hx1
      · exact (hsz _ (by simp)).mono (by omega) (by omega)
      rcases List.mem_cons.mp hx1 with rfl | hx1
      · exact s
      · rw [List.mem_singleton.mp hx1]
        exact (hsz _ (by simp)).mono (by omega) (by omega)
    have S14 := S23.trans S4
    have hx4 := hx0.same S14
    have hy4 := grow_digB _ _ _ S4 hy3
    have ho4 := zgrow_any _ _ _ S4 ho
    have hxt : zTup K 4 (eSz n) (n + 2) H4 (.ref a) := ⟨_, by rw [List.length_cons]; omega, hx4, hsz⟩
    have hxa : zAny K (eSz (n + 1)) (n + 3) H4 (.ref a) := ⟨_, hx4, hwhole⟩
    have xT := ye_var (i := 0) (σ := [some (V.ref a), some (.ref pd), some (.int k), some o, none]) zgrow_tup rfl hxt
    have xA := ye_var (i := 0) (σ := [some (V.ref a), some (.ref pd), some (.int k), some o, none]) zgrow_any rfl hxa
    have oA := (ye_var (i := 3) (σ := [some (V.ref a), some (.ref pd), some (.int k), some o, none]) zgrow_any rfl ho4).zup (l := eSz n) (j := n + 2) (by omega) (by omega)
    have kO := ye_vI (i := 2) (σ := [some (V.ref a), some (.ref pd), some (.int k), some o, none]) (H := H4) (P := fun _ => True) (z := k) rfl trivial
    refine s_asg (ze_lstB (K := K) (eSz (n + 2)) (n + 4) (za_cons (ze_catT (ze_catT (ze_slT xT yo_none (yo_some kO)) (ze_tup (eSz n) (n + 2) (za_cons oA za_nil (Nat.le_refl _) (Nat.le_refl _)))) (ze_slT xT (yo_some (ye_add kO (ye_i (P := fun _ => True) trivial))) yo_none)).ztup
      (za_cons (ze_catT xT (ze_tup (eSz n) (n + 2) (za_cons oA za_nil (Nat.le_refl _) (Nat.le_refl _)))).ztup (za_cons (ze_slT xT yo_none (yo_some (ye_neg (ye_i (P := fun _ => True) trivial) (P' := fun _ => True) (fun _ _ => trivial)))).ztup
      (za_cons (ze_listOf xT).zlst (za_cons oA (za_cons (ze_backT xT).ztup (za_cons (ze_tup (eSz (n + 1)) (n + 3) (za_cons xA za_nil (Nat.le_refl _) (Nat.le_refl _))).ztup za_nil (by omega) (by omega)) (by omega) (by omega)) (by omega) (by omega)) (by omega) (by omega)) (by omega) (by omega)) (by omega) (by omega)) (by omega) (by omega))) (fun H5 so S5 h5 => ?_)
    obtain ⟨L, xs, ds, rfl, hL0, hL, hxs, hds, hdz⟩ := h5
    walk_at "wp"
    refine ⟨tyL (SqL.of hL), sz100 (by decide), fun p hp => ?_⟩
    have U6 := same_upd (o := .tup [.str "split", .int k, .ref a, .ref a]) hp
    have E6 : upd H5 p (.tup [.str "split", .int k, .ref a, .ref a]) p = some (.tup [.str "split", .int k, .ref a, .ref a]) := upd_same
    generalize upd H5 p (.tup [.str "split", .int k, .ref a, .ref a]) = H6 at U6 E6 ⊢
    have hL6 := U6 _ _ hL
    have npL : p ≠ L := fun z => by rw [z, hL] at hp; cases hp
    have hxl : xs.length = 7 := by rw [hxs.length, hds]
    refine ⟨_, hL6, sz100l (by omega), ?_⟩
    have S47 : Same H4 (upd H6 L (.lst (xs ++ [.ref p]))) := same_mut (S5.trans U6) hL0
    have E7 : upd H6 L (.lst (xs ++ [.ref p])) L = some (.lst (xs ++ [.ref p])) := upd_same
    have P7 : upd H6 L (.lst (xs ++ [.ref p])) p = some (.tup [.str "split", .int k, .ref a, .ref a]) := by rw [upd_ne npL]; exact E6
    have B7 : Same (but [L] H5) (upd H6 L (.lst (xs ++ [.ref p]))) := fun b o e => by
      obtain ⟨n1, e1⟩ := but_is e
      rw [upd_ne (by simpa using n1)]
      exact U6 _ _ e1
    generalize upd H6 L (.lst (xs ++ [.ref p])) = H7 at S47 E7 P7 B7 ⊢
    have hd7 := S47.seq (S4.seq hd3)
    have hx7 := hx4.same S47
    have m1 := Int.emod_nonneg (d0 + d1) (show (8 : Int) ≠ 0 by decide)
    have m2 := Int.emod_lt_of_pos (d0 + d1) (show (0 : Int) < 8 by decide)
    have all7 : ThAll K H7 (xs ++ [.ref p]) (ds ++ [.tuple [.str "split", .int k, .tuple (.str z :: r), .tuple (.str z :: r)]]) := (hxs.same B7).append (.cons (.tup (SqT.of P7) (.cons (.str _) (.cons (.int _) (.cons hx7 (.cons hx7 .nil))))) .nil)
    obtain ⟨ve, hj⟩ : ∃ ve, (xs ++ [V.ref p])[((d0 + d1) % 8).toNat]? = some ve := ⟨_, List.getElem?_eq_getElem (by rw [List.length_append, List.length_singleton]; omega)⟩
    obtain ⟨de, hd1, hd2⟩ := all7.get hj
    refine ⟨_, _, hd7, atI_nat (j := 0) rfl, _, _, hd7, atI_nat (j := 1) rfl, ?_⟩
    walk_at "wp"
    refine ⟨by decide, _, _, SqL.of E7, atI_of m1 hj, q _ _ (S14.trans S47) ⟨de, hd2, ?_⟩⟩
    rcases List.mem_append.mp (List.mem_of_getElem? hd1) with hd1 | hd1
    · exact hdz _ hd1
    · rw [List.mem_singleton.mp hd1]
      refine (sm_tuple (n := 4) (l := eSz (n + 1)) (j := n + 3) (Nat.le_refl _) fun x1 hx1 => ?_).mono (Nat.le_refl _) (Nat.le_refl _)
      rcases List.mem_cons.mp hx1 with rfl | hx1
      · exact Szd.mono sm_word (by omega) (by omega)
      rcases List.mem_cons.mp hx1 with rfl | hx1
      · exact (sm_int (by omega)).mono (by omega) (by omega)
      rcases List.mem_cons.mp hx1 with rfl | hx1
      · exact hwhole
      · rw [List.mem_singleton.mp hx1]
        exact hwhole
theorem ok_bentK {f : Addr} {fd : FuncData} (F : Fun K "_law_bent" "_law_bent" s_bent f fd) (B : Bi mg) (D_odd : Def P w K mg base "_law_odd" 1 ["_law_digit"] (spOdd K)) (D_prices_bent : Def P w K mg base "_law_prices_bent" 2 ["_law_rows", "_law_digits"] (spPrB K)) (hm : mg "_law_bent" = some (.ref f)) (hk : PySem.W.keepIn K (.ref f) = true) (hb : Binds K fd ["_law_tree", "_law_digits"] []) : ∀ n : Nat, FnOk P w K mg base CX0 (2 + n + 1) f fd ["_law_tree", "_law_digits"] (spBent K n)
  | 0 => ok_bentS F B D_odd D_prices_bent (sp := fun _ _ _ _ => False) ⟨_, _, hm, hk, hb, ⟨fun _ _ _ _ h => h.elim, fun _ _ _ _ _ _ _ _ _ _ _ _ _ h => h.elim⟩⟩ (.inl rfl)
  | n + 1 => ok_bentS F B D_odd D_prices_bent ⟨_, _, hm, hk, hb, ok_bentK F B D_odd D_prices_bent hm hk hb n⟩ (.inr ⟨n, rfl, rfl⟩)
theorem ok_bent {f : Addr} {fd : FuncData} (F : Fun K "_law_bent" "_law_bent" s_bent f fd) (B : Bi mg) (D_odd : Def P w K mg base "_law_odd" 1 ["_law_digit"] (spOdd K)) (D_prices_bent : Def P w K mg base "_law_prices_bent" 2 ["_law_rows", "_law_digits"] (spPrB K)) (hm : mg "_law_bent" = some (.ref f)) (hk : PySem.W.keepIn K (.ref f) = true) (hb : Binds K fd ["_law_tree", "_law_digits"] []) : FnOk P w K mg base CX0 7 f fd ["_law_tree", "_law_digits"] (spBent K 4) := ok_bentK F B D_odd D_prices_bent hm hk hb 4
end
end Bk

namespace Bk
open PySem PySem.Spec PyProof.Rows L2
local macro_rules | `(tactic| walk_at "wp") => `(tactic| try simp only [rReprM_r, rEqNT_r, tChain3, rGtT_r, tRaise1f, rSorTL_r, rSorTR_r, tCKw, tLc2_eq, rIntS_r, rLenS_r, rIxS_r, rInS_r, rSplit_r, iStr_eq, rNewStrs, iRng3_eq, rRng3_i, tM1, tFmt, iLT, tAugS, tScT2, rSetL_r, rSetOf2_r, rSorDT_r, rSetD, tDGet2, tDGet, tDNewT, rExtend_r, rSortU_r, rSetOf_r, rSortedSet_r, rNinr_r, rNeN_r, rCatL_r, rSlT_r, rListOf_r, rIsB_b, rNotB_b, tFmtO, tJs, tOst, tCallS, WE, tRaise2, rOne_i, rSorD_r, tDNewK, Int.zero_add, tNever, tFor_eq, tLc_eq, iList, iTup, iRng1_eq, rRng1_i, iRng2_eq, rRng2_i, iEnum_eq, rEnum_r, iZip_eq, rZip_r, tSl, tPart, tNoPart, rSlL_r, rCat_r, rIn_r, rNin_r, rRepr_r, iRevR, rMin_r, rShr_i, rOdd_i, rSetL_r, gSub, rRg1_i, rRg2_i, rInr_r, tAug, ipI_ii, tLstRg, tRg1, tRg2, gTup_r, gUnl_r, rInt1_b, rInt1_i, rRep_r, tStep_r, scal, tSeq, tNext, tAsg, tRet, tRetN, tIfS, tDrop, tCB, tCons, tNil, tVar, tOp, tUn, tC, rU_i, rI_ii, rI0_ii, rEq, rNe, tTest, tB, tAnd, tOr, tNot, tAndV, tOrV, tNotV, tIf, tChain, tLst, tTup, tBM, tBM0, rAppend_r, rIxL_r, rIxT_r, rMx_ii, rMn_ii, rLnL_r, rLnT_r, rIsD_int, rIsD_bool, rIsD_list, rIsD_tuple, tCall, gName, gNil_n, gCons_c, cxK, L2.start, List.map, List.replicate, List.length_cons, List.length_nil, List.cons_append, List.nil_append, List.append_nil, List.getElem?_cons_zero, List.getElem?_cons_succ, Option.some.injEq, exists_eq_left', exists_eq_left, V.int.injEq, V.bl.injEq, V.str.injEq, V.ref.injEq, List.cons.injEq, and_true, true_and, and_self, List.set, wipe, rAll_r, rSum_r, reduceCtorEq, decide_true, decide_false, reduceIte, ite_true, ite_false, if_true, if_false, Bool.false_eq_true, Bool.not_true, Bool.not_false])
local macro_rules | `(tactic| walk_at "shaped") => `(tactic| (simp only [rGtT_r, SeqAt.shaped, PyData.canLay0, PyData.canLayAll0, PyData.depth, PyData.depthAll]; rfl))
local macro_rules | `(tactic| walk_at "lay") => `(tactic| (simp only [rGtT_r, PyData.canLay0, PyData.canLayAll0]; rfl))
local macro_rules | `(tactic| walk_at "wg") => `(tactic| try simp only [gName, gTup_r, gCons_c, gNil_n, cxK, List.set, List.cons.injEq, and_true, true_and, exists_eq_left', exists_eq_left, List.length_cons, List.length_nil])
section
variable {P : Program} {w : World} {K : PySem.W.Frag} {mg : Str → Option Value} {base : Heap}
theorem numD_60 {i : Int} (h : numD (.int i) = true) : i.natAbs < 10 ^ 60 := Nat.lt_trans (numD_sm h) (by decide)
theorem szd_opt {o : Option Int} (h : ∀ i, o = some i → i.natAbs < 10 ^ 60) : Szd 61 0 (optD o) := by
  cases o with
  | none => exact sm_none.mono (by decide) (by decide)
  | some i => exact sm_int (h i rfl)
theorem szd_life {o : Option Int} (h : lifeB (optD o) = true) : Szd 61 0 (optD o) := szd_opt fun i e => by
  rw [e] at h
  simp only [optD, lifeB, Bool.and_eq_true, decide_eq_true_eq] at h
  exact Nat.lt_of_le_of_lt (show i.natAbs ≤ 40 by omega) (by decide)
theorem szd_bound {o : Option Int} (h : boundB (optD o) = true) : Szd 61 0 (optD o) := szd_opt fun i e => by
  rw [e] at h
  simp only [optD, boundB, Bool.and_eq_true] at h
  exact numD_60 h.1
theorem szd_parts {d : Day} (h : dayB (dayD d) = true) : ∀ e ∈ [PyData.int d.want, .int d.loaf, .int d.keep, optD d.fine], Szd 61 0 e := by
  simp only [dayD, dayB, Bool.and_eq_true] at h
  obtain ⟨⟨⟨h1, h2⟩, h3⟩, h4⟩ := h
  intro e he
  simp only [List.mem_cons, List.not_mem_nil, or_false] at he
  rcases he with rfl | rfl | rfl | rfl
  · exact sm_int (numD_60 h1)
  · exact sm_int (numD_60 h2)
  · exact sm_int (numD_60 h3)
  · refine szd_opt fun i e => ?_
    rcases Bool.or_eq_true_iff.mp h4 with z | z
    · rw [e] at z; cases z
    · rw [e] at z; exact numD_60 z
theorem szd_day {d : Day} (h : dayB (dayD d) = true) : Szd 255 1 (dayD d) := sm_tuple (n := 4) (by show 4 ≤ 4; decide) (szd_parts h)
theorem szd_days {n : Nat} {ds : List Day} (hn : ds.length ≤ n) (h : ∀ d ∈ ds, dayB (dayD d) = true) : Szd (n * 257 + 3) 2 (.list (ds.map dayD)) := sm_list (by rw [List.length_map]; exact hn) fun x hx => by
  obtain ⟨d, hd, rfl⟩ := List.mem_map.mp hx
  exact szd_day (h d hd)
theorem szd_pair {l j : Nat} {d e : PyData} (h1 : Szd l j d) (h2 : Szd 61 0 e) (hl : 61 ≤ l) : Szd (2 * (l + 2) + 3) (j + 1) (.tuple [d, e]) := sm_tuple (n := 2) (by show 2 ≤ 2; decide) fun x hx => by
  simp only [List.mem_cons, List.not_mem_nil, or_false] at hx
  rcases hx with rfl | rfl
  · exact h1
  · exact h2.mono hl (Nat.zero_le _)
theorem szd_good {g : Good} (h1 : g.days.length ≤ 40) (h2 : lifeB (optD g.life) = true) (h3 : ∀ d ∈ g.days, dayB (dayD d) = true) : Szd 21000 3 (goodD g) := (szd_pair (szd_days h1 h3) (szd_life h2) (by decide)).mono (by decide) (by decide)
theorem szd_goods {gs : List Good} (hn : gs.length ≤ 2) (h : ∀ g ∈ gs, g.days.length ≤ 40 ∧ lifeB (optD g.life) = true ∧ ∀ d ∈ g.days, dayB (dayD d) = true) : ∀ d ∈ gs.map goodD, Szd 21000 3 d := fun x hx => by
  obtain ⟨g, hg, rfl⟩ := List.mem_map.mp hx
  obtain ⟨h1, h2, h3⟩ := h g hg
  exact szd_good h1 h2 h3
theorem szd_ints {ns : List Int} (h : ∀ z ∈ ns, numD (.int z) = true) : ∀ d ∈ ns.map PyData.int, Szd 61 0 d := fun x hx => by
  obtain ⟨z, hz, rfl⟩ := List.mem_map.mp hx
  exact sm_int (numD_60 (h z hz))
theorem szd_bak {b : Bak} (hb : bakB (bakD b) = true) : Szd 130000 5 (bakD b) := by
  obtain ⟨⟨c1, c2⟩, c3, c4, ⟨c5, c6⟩, c7⟩ := bak_parts hb
  have sG := szd_goods c6 fun g hg => ⟨Nat.le_trans (Nat.le_of_eq (c7 g hg).1) c2, (c7 g hg).2⟩
  have sGL : Szd 42007 4 (.list (b.goods.map goodD)) := sm_list (n := 2) (by rw [List.length_map]; exact c6) sG
  have sLL : Szd 2523 1 (.list (b.lights.map PyData.int)) := sm_list (n := 40) (by rw [List.length_map]; exact c2) (szd_ints c3)
  refine (sm_tuple (n := 3) (l := 42007) (j := 4) (by show 3 ≤ 3; decide) fun d hd => ?_).mono (by decide) (by decide)
  simp only [List.mem_cons, List.not_mem_nil, or_false] at hd
  rcases hd with rfl | rfl | rfl
  · exact sLL.mono (by decide) (by decide)
  · exact (szd_bound c4).mono (by decide) (by decide)
  · exact sGL
abbrev s_law : Stmt := top 71
theorem sc_law : FnScope ["_law_script", "_law_bakery", "_law_at", "_law_cell", "_law_digits", "_law_tree", "_law_bottoms", "_law_costs", "_law_thing", "_law_cost", "_law_kept", "_law_found"] ["_law_script"] (defScope s_law) := ⟨rfl, rfl, rfl, by decide +kernel, rfl, by decide +kernel, by decide +kernel⟩
def spLaw (K : PySem.W.Frag) : Sp := fun vs H Q _ => ∃ (a : Addr) (ns : List Int), vs = [.ref a] ∧ SqL K H a (ns.map V.int) ∧ ns.length ≤ 63 ∧ NoSys K H ∧ ∀ H', Q (.bl true) H'
def L54 (v0 v1 : V) (H : Hp) (_ : Nat) (σ : L2.St) (H' : Hp) : Prop := (∃ y2 y3 y4 y5 y6 y7 y8 y9 y10 y11, σ = [some v0, some v1, y2, y3, y4, y5, y6, y7, y8, y9, y10, y11]) ∧ Same H H'
theorem ok_law {f : Addr} {fd : FuncData} (F : Fun K "law" "law" s_law f fd) (B : Bi mg) (D_two : Def P w K mg base "_law_two" 3 ["_law_script", "_law_upto", "_law_salt"] (spTwo K)) (D_numbers : Def P w K mg base "_law_numbers" 1 ["_law_cell", "_law_salt", "_law_sizes"] (spNumbers K)) (D_tree_drawn : Def P w K mg base "_law_tree_drawn" 6 ["_law_bakery", "_law_digits", "_law_deep"] (spTDr K 4)) (D_leaves : Def P w K mg base "_law_leaves" 8 ["_law_bakery", "_law_tree", "_law_lit", "_law_dark"] (spLvs K 4)) (D_bent : Def P w K mg base "_law_bent" 7 ["_law_tree", "_law_digits"] (spBent K 4)) (D_lets_tree : Def P w K mg base "lets_tree" 49 ["bakery", "cost", "thing"] (spTree K)) (D_is_tree : Def P w K mg base "_law_is_tree" 24 ["_law_bakery", "_law_cost", "_law_thing", "_law_lit", "_law_dark"] (spTreeL K 20)) : RunG P w K mg base 50 f fd ["_law_script"] (spLaw K) := by
  refine runG_of F sc_law (fun vs H Q E h => ?_) (fun cdv A outer s H vs Q E hG hr h => ?_)
  · obtain ⟨a, ns, rfl, _⟩ := h
    rfl
  · obtain ⟨a, ns, rfl, hS, hlen, hM, q⟩ := h
    refine ⟨_, (pss_cons (ps_set (i := 1) sc_law.nd rfl (Or.inl rfl) (pe_callD D_two hr (by rfl) (pa_cons (pv 0) (pa_cons pe_int (pa_cons pe_int pa_nil)))))
 (pss_cons (ps_for PassesOwn.never rfl (pi_enum (by rfl) B.enumerate (pa_cons (pe_op op_cat (pe_lst (pa_cons pe_int pa_nil)) (pe_slice sl_list (pv 0) (po_some pe_int) (po_some pe_int))) pa_nil)) (pg_tup rfl (pgs_cons (pg_name (i := 2) sc_law.nd rfl (Or.inl rfl)) (pgs_cons (pg_name (i := 3) sc_law.nd rfl (Or.inl rfl)) pgs_nil))) (pss_cons (ps_set (i := 4) sc_law.nd rfl (Or.inl rfl) (pe_callD D_numbers hr (by rfl) (pa_cons (pv 3) (pa_cons (pe_op op_add pe_int (pv 2)) (pa_cons (pe_op op_cat (pe_op op_rep (pe_lst (pa_cons pe_int pa_nil)) pe_int) (pe_lst (pa_cons pe_int (pa_cons pe_int (pa_cons pe_int (pa_cons pe_int (pa_cons pe_int pa_nil))))))) pa_nil)))))
 (pss_cons (ps_set (i := 5) sc_law.nd rfl (Or.inl rfl) (pe_callD D_tree_drawn hr (by rfl) (pa_cons (pv 1) (pa_cons (pe_slice sl_list (pv 4) po_none (po_some pe_int)) (pa_cons pe_int pa_nil)))))
 (pss_cons (ps_set (i := 6) sc_law.nd rfl (Or.inl rfl) (pe_callD D_leaves hr (by rfl) (pa_cons (pv 1) (pa_cons (pv 5) (pa_cons (pe_lst pa_nil) (pa_cons (pe_lst pa_nil) pa_nil))))))
 (pss_cons (ps_set (i := 7) sc_law.nd rfl (Or.inl rfl) (pe_lst (pa_cons (pe_callB (cr_min rfl) (by rfl) B.min (by decide +kernel) (pa_cons (pe_op op_catL (pv 6) (pe_lst (pa_cons (pe_ix ix_list (pv 4) pe_int (fun _ _ => rfl)) pa_nil))) pa_nil)) (pa_cons (pe_op op_add (pe_callB (cr_min rfl) (by rfl) B.min (by decide +kernel) (pa_cons (pe_op op_catL (pv 6) (pe_lst (pa_cons (pe_op op_pow pe_int pe_int) pa_nil))) pa_nil)) pe_int) (pa_cons (pe_ix ix_list (pv 4) pe_int (fun _ _ => rfl)) pa_nil)))))
 (pss_cons (ps_set (i := 8) sc_law.nd rfl (Or.inl rfl) (pv 5))
 (pss_cons (ps_if (pt_cmpR op_eq (pe_ix ix_list (pv 4) pe_int (fun _ _ => rfl)) pe_int (nomark _)) (pss_one (ps_set (i := 8) sc_law.nd rfl (Or.inl rfl) (pe_callD D_bent hr (by rfl) (pa_cons (pv 5) (pa_cons (pe_slice sl_list (pv 4) (po_some pe_int) (po_some pe_int)) pa_nil))))) pss_nil)
 (pss_cons (ps_set (i := 9) sc_law.nd rfl (Or.inl rfl) (pe_ix ix_list (pv 7) (pe_ix ix_list (pv 4) pe_int (fun _ _ => rfl)) (fun _ _ => rfl)))
 (pss_cons (ps_set (i := 10) sc_law.nd rfl (Or.inl rfl) (pe_callB (call_reprM hG hr.units) (by rfl) B.repr (by decide +kernel) (pa_cons (pe_lst (pa_cons (pv 1) (pa_cons (pv 8) pa_nil))) pa_nil)))
 (pss_cons (ps_set (i := 11) sc_law.nd rfl (Or.inl rfl) (pe_callD D_lets_tree hr (by rfl) (pa_cons (pv 1) (pa_cons (pv 9) (pa_cons (pv 8) pa_nil)))))
 (pss_cons (ps_if (PW.pt (pw_or (pt_not (pt_val (pe_callB (call_isD .bool) (by rfl) B.isinstance (by decide +kernel) (pa_cons (pv 11) (pa_cons (pe_bltn (v := .ty "bool") (by rfl) B.bool (by decide +kernel) rfl) pa_nil))))) (pw_or1 (pt_cmpR op_ne (pv 11) (pe_callD D_is_tree hr (by rfl) (pa_cons (pv 1) (pa_cons (pv 9) (pa_cons (pv 8) (pa_cons (pe_lst pa_nil) (pa_cons (pe_lst pa_nil) pa_nil)))))) (nomark _))))) (pss_one (ps_ret pe_bl)) pss_nil)
 (pss_one (ps_if (pt_cmpR op_ne (pe_callB (call_reprM hG hr.units) (by rfl) B.repr (by decide +kernel) (pa_cons (pe_lst (pa_cons (pv 1) (pa_cons (pv 8) pa_nil))) pa_nil)) (pv 10) (nomark _)) (pss_one (ps_ret pe_bl)) pss_nil)))))))))))))
 (pss_one (ps_ret pe_bl)))), ?_⟩
    walk_at "wp"
    refine ⟨a, ns, 6, 5400, rfl, hS, hlen, by decide, by decide, by decide, fun H1 x b S1 hx hb hbl => ?_⟩
    have hk := hx.same (newOf_same _ _)
    have szB := szd_bak hb
    obtain ⟨⟨c1, c2⟩, c3, c4, ⟨c5, c6⟩, c7⟩ := bak_parts hb
    have hl6 : b.lights.length ≤ 6 := by
      rw [hbl]
      unfold nDays
      omega
    walk_at "wp"
    refine ⟨sz100 (by decide), fun q1 h1 => ⟨_, (S1.trans (same_upd h1)).seq hS, fun q2 h2 => ?_⟩⟩
    rw [show cutV (ns.map V.int) (some 6) (some 36) = ((ns.drop 6).take 30).map V.int by rw [List.map_take, List.map_drop]; exact cutV_nat _ 6 36]
    obtain ⟨cs, hcs, hcl⟩ : ∃ cs : List Int, (ns.drop 6).take 30 = cs ∧ cs.length ≤ 30 := ⟨_, rfl, by rw [List.length_take]; omega⟩
    rw [hcs]
    have R1 := same_upd (o := .lst [V.int 3]) h1
    have G1 : upd H1 q1 (.lst [V.int 3]) q1 = some (.lst [V.int 3]) := upd_same
    generalize upd H1 q1 (.lst [V.int 3]) = J1 at R1 G1 h2 ⊢
    have R2 := same_upd (o := .lst (cs.map V.int)) h2
    have G2 : upd J1 q2 (.lst (cs.map V.int)) q2 = some (.lst (cs.map V.int)) := upd_same
    generalize upd J1 q2 (.lst (cs.map V.int)) = J2 at R2 G2 ⊢
    refine ⟨_, _, R2 _ _ G1, G2, sz100 (by rw [List.length_map]; show 1 + cs.length ≤ 100000; omega), fun q3 h3 => ?_⟩
    have R3 := same_upd (o := .lst ([V.int 3] ++ cs.map V.int)) h3
    have G3 : upd J2 q3 (.lst ([V.int 3] ++ cs.map V.int)) q3 = some (.lst ((3 :: cs).map V.int)) := upd_same
    generalize upd J2 q3 (.lst ([V.int 3] ++ cs.map V.int)) = J3 at R3 G3 ⊢
    have S13 := R1.trans (R2.trans R3)
    have hk3 := (hk.same S13).th (K := K)
    have hM3 := hM.same (S1.trans S13)
    refine ⟨_, SqL.of G3, LoopR.by (walk_enum (xs := (3 :: cs).map V.int)) (L54 (.ref a) x J3) ⟨⟨_, _, _, _, _, _, _, _, _, _, rfl⟩, Same.refl _⟩ (fun i σ H' _ hI => hI.2.seq (SqL.of G3)) (fun i v σ H0 H4 hi hI hY => ?_) (fun σ H4 hI => ?_)⟩
    rotate_left
    · exact q _
    obtain ⟨⟨y2, y3, y4, y5, y6, y7, y8, y9, y10, y11, rfl⟩, S0⟩ := hI
    have S4 := S0.trans (ypair_same hY)
    obtain ⟨T, z1, z2, rfl, hT, rfl, e1, e2⟩ := hY
    cases e1
    have e2 : ((3 :: cs).map V.int)[i]? = some z2 := e2
    rw [List.length_map] at hi
    have hi' : i < cs.length + 1 := hi
    obtain ⟨c, rfl⟩ : ∃ c : Int, z2 = .int c := by
      rw [List.getElem?_map, List.getElem?_eq_getElem hi] at e2
      exact ⟨_, (Option.some.inj e2).symm⟩
    walk_at "wg"
    refine ⟨_, SqT.of upd_same, rfl, ?_⟩
    generalize upd H0 T (.tup [V.int (i : Int), V.int c]) = H4 at S4 ⊢
    walk_at "wg"
    refine seq6 (fun σ' H' => ∃ (y : V) (d : PyData) (pd pc : Addr) (fs : List Int) (f15 k0 k1 k2 : Int) (y5 y6 y9 y10 y11 : Option V), σ' = [some (.ref a), some x, some (.int (i : Int)), some (.int c), some (.ref pd), y5, y6, some (.ref pc), some y, y9, y10, y11] ∧ Same J3 H' ∧ Th K H' y d ∧ Szd (eSz 6) 8 d ∧ SqL K H' pd (fs.map V.int) ∧ fs[15]? = some f15 ∧ 0 ≤ f15 ∧ f15 < 3 ∧ SqL K H' pc [.int k0, .int k1, .int k2]) (fun σ1 H5 hm => ?_) (fun N hN => ?_)
    · obtain ⟨y, d, pd, pc, fs, f15, k0, k1, k2, y5, y6, y9, y10, y11, rfl, S5, hy, hsz, hpd, hf15, f0, f3, hpc⟩ := hm
      have szK : Szd 7000000 9 (.list [bakD b, d]) := (sm_list (n := 2) (l := eSz 6) (j := 8) (by show 2 ≤ 2; decide) fun e he => by
        simp only [List.mem_cons, List.not_mem_nil, or_false] at he
        rcases he with rfl | rfl
        · exact szB.mono (by decide) (by decide)
        · exact hsz).mono (by decide) (by decide)
      have shK := szK.shows (by decide) (by decide)
      have hth : ∀ (H' : Hp) (p : Addr), Same H5 H' → H' p = some (.lst [x, y]) → Th K H' (.ref p) (.list [bakD b, d]) := fun H' p s e => .lst (SqL.of e) (.cons (hk3.same (S5.trans s)) (.cons (hy.same s) .nil))
      have hdeep : Deep 20 d := deep_of (Nat.le_trans hsz.deep (by decide))
      walk_at "wp"
      refine ⟨_, _, hpd, atI_nat (j := 15) (by rw [List.getElem?_map, hf15]; rfl), ?_⟩
      walk_at "wp"
      obtain ⟨k, hk⟩ : ∃ k : Int, atI [V.int k0, V.int k1, V.int k2] f15 = some (.int k) := by
        rcases (show f15 = 0 ∨ f15 = 1 ∨ f15 = 2 by omega) with rfl | rfl | rfl
        · exact ⟨_, atI_nat (j := 0) rfl⟩
        · exact ⟨_, atI_nat (j := 1) rfl⟩
        · exact ⟨_, atI_nat (j := 2) rfl⟩
      refine ⟨_, _, hpc, hk, sz100 (by decide), fun p8 n8 => ?_⟩
      have S8 := same_upd (o := .lst [x, y]) n8
      have E8 : upd H5 p8 (.lst [x, y]) p8 = some (.lst [x, y]) := upd_same
      generalize upd H5 p8 (.lst [x, y]) = H8 at S8 E8 ⊢
      have S58 := S5.trans S8
      refine ⟨_, hth _ _ S8 E8, hM3.same S58, shK, x, b, k, y, d, rfl, hk3.same S58, hb, hy.same S8, hdeep, fun H9 S9 => ?_⟩
      refine ⟨_, .bl _, ?_⟩
      rw [if_neg (by simp [isD])]
      refine ⟨sz100 (by decide), fun p9 n9 => ⟨sz100 (by decide), fun pA nA => ?_⟩⟩
      have U9 := same_upd (o := .lst []) n9
      have E9 : upd H9 p9 (.lst []) p9 = some (.lst []) := upd_same
      generalize upd H9 p9 (.lst []) = HA at U9 E9 nA ⊢
      have UA := same_upd (o := .lst []) nA
      have EA : upd HA pA (.lst []) pA = some (.lst []) := upd_same
      generalize upd HA pA (.lst []) = HB at UA EA ⊢
      have S8B := S9.trans (U9.trans UA)
      have SB := S58.trans S8B
      refine ⟨x, b, k, y, d, p9, pA, [], [], rfl, hk3.same SB, hb, hy.same (S8.trans S8B), SqL.of (UA _ _ E9), SqL.of EA, by decide, by decide, by decide, hdeep, fun HC SC => ⟨rfl, ?_⟩⟩
      rw [if_neg (by simp)]
      refine ⟨sz100 (by decide), fun pD nD => ?_⟩
      have SD := same_upd (o := .lst [x, y]) nD
      have ED : upd HC pD (.lst [x, y]) pD = some (.lst [x, y]) := upd_same
      generalize upd HC pD (.lst [x, y]) = HD at SD ED ⊢
      have S8D := S8B.trans (SC.trans SD)
      refine ⟨_, hth _ _ (S8.trans S8D) ED, hM3.same (S58.trans S8D), shK, ?_⟩
      rw [if_neg (by simp)]
      exact ⟨⟨_, _, _, _, _, _, _, _, _, _, rfl⟩, S58.trans S8D⟩
    · walk_at "wp"
      refine ⟨sz100 (by decide), fun p5 h5 => ⟨_, upd_same, by decide, by decide, sz100 (by decide), fun p6 h6 => ⟨sz100 (by decide), fun p7 h7 => ?_⟩⟩⟩
      have T5 := same_upd (o := .lst [V.int 60]) h5
      generalize upd H4 p5 (.lst [V.int 60]) = K1 at T5 h6 h7 ⊢
      have T6 := same_upd (o := .lst (List.replicate (Int.toNat 12) [V.int 60]).flatten) h6
      have E6 : upd K1 p6 (.lst (List.replicate (Int.toNat 12) [V.int 60]).flatten) p6 = some (.lst ((List.replicate 12 [(60 : Int)]).flatten.map V.int)) := upd_same
      generalize upd K1 p6 (.lst (List.replicate (Int.toNat 12) [V.int 60]).flatten) = K2 at T6 E6 h7 ⊢
      have T7 := same_upd (o := .lst [V.int 8, V.int 18, V.int 4, V.int 3, V.int 200]) h7
      have E7 : upd K2 p7 (.lst [V.int 8, V.int 18, V.int 4, V.int 3, V.int 200]) p7 = some (.lst (([8, 18, 4, 3, 200] : List Int).map V.int)) := upd_same
      generalize upd K2 p7 (.lst [V.int 8, V.int 18, V.int 4, V.int 3, V.int 200]) = K3 at T7 E7 ⊢
      refine ⟨_, _, T7 _ _ E6, E7, sz100 (by decide), fun p8 h8 => ?_⟩
      rw [← List.map_append]
      have T8 := same_upd (o := .lst (((List.replicate 12 [(60 : Int)]).flatten ++ [8, 18, 4, 3, 200]).map V.int)) h8
      have E8 : upd K3 p8 (.lst (((List.replicate 12 [(60 : Int)]).flatten ++ [8, 18, 4, 3, 200]).map V.int)) p8 = some (.lst (((List.replicate 12 [(60 : Int)]).flatten ++ [8, 18, 4, 3, 200]).map V.int)) := upd_same
      generalize upd K3 p8 (.lst (((List.replicate 12 [(60 : Int)]).flatten ++ [8, 18, 4, 3, 200]).map V.int)) = K4 at T8 E8 ⊢
      refine ⟨c, 5420 + (i : Int), p8, _, rfl, SqL.of E8, by omega, by omega, by decide, by decide +kernel, fun K5 pd fs T9 hpd hD hfs => ?_⟩
      have T49 := T5.trans (T6.trans (T7.trans (T8.trans T9)))
      have hfl : fs.length = 17 := hD.1
      obtain ⟨gs, f12, f13, f14, f15, f16, rfl, hgl⟩ : ∃ gs f12 f13 f14 f15 f16, fs = gs ++ [f12, f13, f14, f15, f16] ∧ gs.length = 12 := by
        have e := List.take_append_drop 12 fs
        have hd : (fs.drop 12).length = 5 := by rw [List.length_drop]; omega
        match hq : fs.drop 12, hd with
        | [f12, f13, f14, f15, f16], _ => exact ⟨fs.take 12, f12, f13, f14, f15, f16, by rw [← hq, e], by rw [List.length_take]; omega⟩
      have at5 : ∀ (k : Nat) (f : Int), [f12, f13, f14, f15, f16][k]? = some f → (gs ++ [f12, f13, f14, f15, f16])[12 + k]? = some f := fun k f e => by
        rw [List.getElem?_append_right (by omega), hgl, show 12 + k - 12 = k by omega]
        exact e
      have hfb : ∀ d ∈ gs, 0 ≤ d ∧ d ≤ 200 := fun d hd => by
        obtain ⟨j, hj, rfl⟩ := List.getElem_of_mem hd
        have hz : ∀ j : Nat, j < 12 → ((List.replicate 12 [(60 : Int)]).flatten ++ [8, 18, 4, 3, 200])[j]? = some 60 := by decide
        have h1 := hD.2 j gs[j] 60 (by rw [List.getElem?_append_left hj]; exact List.getElem?_eq_getElem hj) (hz j (by omega))
        omega
      have b12 := hD.2 12 f12 8 (at5 0 _ rfl) rfl
      have b15 := hD.2 15 f15 3 (at5 3 _ rfl) rfl
      walk_at "wp"
      refine ⟨_, SqL.of hfs, fun p9 h9 => ?_⟩
      rw [show cutV ((gs ++ [f12, f13, f14, f15, f16]).map V.int) none (some 12) = gs.map V.int by rw [show (12 : Int) = ((12 : Nat) : Int) from rfl, cutV_upto, List.map_append, List.take_append_of_le_length (by rw [List.length_map]; omega), List.take_of_length_le (by rw [List.length_map]; omega)]]
      have TA := same_upd (o := .lst (gs.map V.int)) h9
      have EA : upd K5 p9 (.lst (gs.map V.int)) p9 = some (.lst (gs.map V.int)) := upd_same
      generalize upd K5 p9 (.lst (gs.map V.int)) = K6 at TA EA ⊢
      have SA := S4.trans (T49.trans TA)
      refine ⟨x, b, p9, gs, 0, rfl, hk3.same SA, hb, SqL.of EA, hgl, hfb, by decide, by decide, fun K7 t d TB ht hd => ?_⟩
      have SB := SA.trans TB
      have hfs7 := (TA.trans TB) _ _ hfs
      refine ⟨sz100 (by decide), fun pA hA => ⟨sz100 (by decide), fun pB hB => ?_⟩⟩
      have UA := same_upd (o := .lst []) hA
      have FA : upd K7 pA (.lst []) pA = some (.lst []) := upd_same
      generalize upd K7 pA (.lst []) = K8 at UA FA hB ⊢
      have UB := same_upd (o := .lst []) hB
      have FB : upd K8 pB (.lst []) pB = some (.lst []) := upd_same
      generalize upd K8 pB (.lst []) = K9 at UB FB ⊢
      have U79 := UA.trans UB
      refine ⟨x, b, t, d, pA, pB, [], [], rfl, (hk3.same SB).same U79, hb, ht.same U79, hd, SqL.of (UB _ _ FA), SqL.of FB, by decide, by decide, by decide, fun KA r ns UC hr hns => ?_⟩
      have hns16 : ns.length ≤ 16 := hns
      have U7A := U79.trans UC
      have hfsA := U7A _ _ hfs7
      have i16 : atI ((gs ++ [f12, f13, f14, f15, f16]).map V.int) 16 = some (.int f16) := atI_nat (j := 16) (by rw [List.getElem?_map, at5 4 _ rfl]; rfl)
      have i14 : atI ((gs ++ [f12, f13, f14, f15, f16]).map V.int) 14 = some (.int f14) := atI_nat (j := 14) (by rw [List.getElem?_map, at5 2 _ rfl]; rfl)
      have l1 : ∀ z : Int, ns.map V.int ++ [V.int z] = (ns ++ [z]).map V.int := fun z => by rw [List.map_append]; rfl
      have hlen2 : ∀ z : Int, ((ns.map V.int).length + [V.int z].length) ≤ 100000 := fun z => by simp; omega
      refine ⟨_, _, SqL.of hfsA, i16, sz100 (by decide), fun pC hC => ?_⟩
      have VC := same_upd (o := .lst [V.int f16]) hC
      have FC : upd KA pC (.lst [V.int f16]) pC = some (.lst [V.int f16]) := upd_same
      generalize upd KA pC (.lst [V.int f16]) = KB at VC FC ⊢
      walk_at "wp"
      refine ⟨_, _, VC.seq hr, SqL.of FC, sz100 (hlen2 _), fun pD hD2 => ?_⟩
      rw [l1]
      have VD := same_upd (o := .lst ((ns ++ [f16]).map V.int)) hD2
      have FD : upd KB pD (.lst ((ns ++ [f16]).map V.int)) pD = some (.lst ((ns ++ [f16]).map V.int)) := upd_same
      generalize upd KB pD (.lst ((ns ++ [f16]).map V.int)) = KC at VD FD ⊢
      walk_at "wp"
      refine ⟨_, SqL.of FD, by simp, fun m1 _ _ => ⟨⟨by decide, by decide, by decide⟩, sz100 (by decide), fun pE hE => ?_⟩⟩
      have VE := same_upd (o := .lst [V.int (10 ^ Int.toNat 30)]) hE
      have FE : upd KC pE (.lst [V.int (10 ^ Int.toNat 30)]) pE = some (.lst [V.int (10 ^ Int.toNat 30)]) := upd_same
      generalize upd KC pE (.lst [V.int (10 ^ Int.toNat 30)]) = KD at VE FE ⊢
      have VAD := VC.trans (VD.trans VE)
      walk_at "wp"
      refine ⟨_, _, VAD.seq hr, SqL.of FE, sz100 (hlen2 _), fun pF hF => ?_⟩
      rw [l1]
      have VF := same_upd (o := .lst ((ns ++ [(10 : Int) ^ Int.toNat 30]).map V.int)) hF
      have FF : upd KD pF (.lst ((ns ++ [(10 : Int) ^ Int.toNat 30]).map V.int)) pF = some (.lst ((ns ++ [(10 : Int) ^ Int.toNat 30]).map V.int)) := upd_same
      generalize upd KD pF (.lst ((ns ++ [(10 : Int) ^ Int.toNat 30]).map V.int)) = KE at VF FF ⊢
      walk_at "wp"
      refine ⟨_, SqL.of FF, by simp, fun m2 _ _ => ?_⟩
      walk_at "wp"
      have VAE := VAD.trans VF
      refine ⟨_, _, SqL.of (VAE _ _ hfsA), i16, sz100 (by decide), fun pG hG => ?_⟩
      have VG := same_upd (o := .lst [V.int m1, V.int (m2 + 1), V.int f16]) hG
      have FG : upd KE pG (.lst [V.int m1, V.int (m2 + 1), V.int f16]) pG = some (.lst [V.int m1, V.int (m2 + 1), V.int f16]) := upd_same
      generalize upd KE pG (.lst [V.int m1, V.int (m2 + 1), V.int f16]) = KF at VG FG ⊢
      have VAF := VAE.trans VG
      have U7F := U7A.trans VAF
      have SF := SB.trans U7F
      have hfsF := VAF _ _ hfsA
      have htF := ht.same U7F
      have hsT := hd.szd hl6 c6
      refine ⟨_, _, SqL.of hfsF, i14, rfl, ?_⟩
      by_cases h14 : V.int f14 = V.int 0
      · rw [if_pos (decide_eq_true h14)]
        refine ⟨_, SqL.of hfsF, fun pH hH => ?_⟩
        rw [show cutV ((gs ++ [f12, f13, f14, f15, f16]).map V.int) (some 12) (some 15) = [V.int f12, V.int f13, V.int f14] by
          rw [show (12 : Int) = ((12 : Nat) : Int) from rfl, show (15 : Int) = ((15 : Nat) : Int) from rfl, cutV_nat, List.map_append, List.drop_append_of_le_length (by rw [List.length_map]; omega), List.drop_of_length_le (by rw [List.length_map]; omega)]
          rfl]
        have VH := same_upd (o := .lst [V.int f12, V.int f13, V.int f14]) hH
        have FH : upd KF pH (.lst [V.int f12, V.int f13, V.int f14]) pH = some (.lst [V.int f12, V.int f13, V.int f14]) := upd_same
        generalize upd KF pH (.lst [V.int f12, V.int f13, V.int f14]) = KG at VH FH ⊢
        refine ⟨t, .ref pH, b, d, f12, f13, f14, rfl, htF.same VH, hd, hl6, c6, c1, c5, ⟨pH, rfl, SqL.of FH⟩, b12.1, b12.2, fun KH y VI hy => ?_⟩
        obtain ⟨dy, hy, hsy⟩ := hy
        have VHI := VH.trans VI
        exact hN _ _ ⟨y, dy, pd, pG, _, f15, m1, m2 + 1, f16, _, _, _, _, _, rfl, SF.trans VHI, hy, hsy, SqL.of (VHI _ _ hfsF), at5 3 _ rfl, b15.1, b15.2, SqL.of (VHI _ _ FG)⟩
      · rw [if_neg (by rw [decide_eq_true_eq]; exact h14)]
        exact hN _ _ ⟨t, d, pd, pG, _, f15, m1, m2 + 1, f16, _, _, _, _, _, rfl, SF, htF, hsT.mono (by decide) (by decide), SqL.of hfsF, at5 3 _ rfl, b15.1, b15.2, SqL.of FG⟩
end
end Bk

namespace Bk
open PySem PySem.Spec PyProof.Rows L2
theorem fnImp {P : Program} {w : World} {K : PySem.W.Frag} {mg : Str → Option Value} {base : Heap} {CX : CXT} {k : Nat} {f : Addr} {fd : FuncData} {ps : List Str} {s1 s2 : Sp} (F : FnOk P w K mg base CX k f fd ps s1) (h : ∀ vs H Q E, s2 vs H Q E → s1 vs H Q E) : FnOk P w K mg base CX k f fd ps s2 :=
  ⟨fun vs H Q E z => F.len vs H Q E (h _ _ _ _ z), fun A outer s H args us vs Q E hr h0 hb hv z => F.run A outer s H args us vs Q E hr h0 hb hv (h _ _ _ _ z)⟩
theorem place_of {P : Program} {w : World} {K : PySem.W.Frag} {mg : Str → Option Value} {base : Heap} {ps : List Str} (D : Def P w K mg base "is_place" 2 ps (spPlaceA K)) : Def P w K mg base "is_place" 2 ps (spPlace K) :=
  let ⟨f, fd, h1, h2, h3, F⟩ := D.ex
  ⟨f, fd, h1, h2, h3, fnImp F fun vs H Q E ⟨i, n, e, q⟩ => ⟨.int i, .int i, n, e, .int i, q⟩⟩
theorem all_mk {l : PySem.W.OpenLaw} {w : World} {K : PySem.W.Frag} {h : Heap} {mg : Str → Option Value} {fa f1 f2 f3 f4 f5 f6 f7 f8 f9 f10 f11 f12 f13 f14 f15 f16 f17 f18 f19 f20 f21 f22 f23 f24 f25 f26 f27 f28 f29 f30 f31 f32 f33 f34 f35 f36 f37 f38 f39 f40 f41 f42 f43 f44 f45 f46 f47 f48 f49 f50 f51 f52 f53 f54 : Addr} (X : K.In h) (G : h.Ns mainGlobals mg) (hfa : mg "law" = some (.ref fa))
    {od1 an1 od2 an2 od3 an3 od4 an4 od5 an5 od6 an6 od7 an7 od8 an8 od9 an9 od10 an10 od11 an11 od12 an12 od13 an13 od14 an14 od15 an15 od16 an16 od17 an17 od18 an18 od19 an19 od20 an20 od21 an21 od22 an22 od23 an23 od24 an24 od25 an25 od26 an26 od27 an27 od28 an28 od29 an29 od30 an30 od31 an31 od32 an32 od33 an33 od34 an34 od35 an35 od36 an36 od37 an37 od38 an38 od39 an39 od40 an40 od41 an41 od42 an42 od43 an43 od44 an44 od45 an45 od46 an46 od47 an47 od48 an48 od49 an49 od50 an50 od51 an51 od52 an52 od53 an53 od54 an54 : Option Addr} {sl1 sl2 sl3 sl4 sl5 sl6 sl7 sl8 sl9 sl10 sl11 sl12 sl13 sl14 sl15 sl16 sl17 sl18 sl19 sl20 sl21 sl22 sl23 sl24 sl25 sl26 sl27 sl28 sl29 sl30 sl31 sl32 sl33 sl34 sl35 sl36 sl37 sl38 sl39 sl40 sl41 sl42 sl43 sl44 sl45 sl46 sl47 sl48 sl49 sl50 sl51 sl52 sl53 sl54 : Array (Option Value)} {oc1 kV1 dc1 pm1 cd1 ct1 oc2 kV2 dc2 pm2 cd2 ct2 oc3 kV3 dc3 pm3 cd3 ct3 oc4 kV4 dc4 pm4 cd4 ct4 oc5 kV5 dc5 pm5 cd5 ct5 oc6 kV6 dc6 pm6 cd6 ct6 oc7 kV7 dc7 pm7 cd7 ct7 oc8 kV8 dc8 pm8 cd8 ct8 oc9 kV9 dc9 pm9 cd9 ct9 oc10 kV10 dc10 pm10 cd10 ct10 oc11 kV11 dc11 pm11 cd11 ct11 oc12 kV12 dc12 pm12 cd12 ct12 oc13 kV13 dc13 pm13 cd13 ct13 oc14 kV14 dc14 pm14 cd14 ct14 oc15 kV15 dc15 pm15 cd15 ct15 oc16 kV16 dc16 pm16 cd16 ct16 oc17 kV17 dc17 pm17 cd17 ct17 oc18 kV18 dc18 pm18 cd18 ct18 oc19 kV19 dc19 pm19 cd19 ct19 oc20 kV20 dc20 pm20 cd20 ct20 oc21 kV21 dc21 pm21 cd21 ct21 oc22 kV22 dc22 pm22 cd22 ct22 oc23 kV23 dc23 pm23 cd23 ct23 oc24 kV24 dc24 pm24 cd24 ct24 oc25 kV25 dc25 pm25 cd25 ct25 oc26 kV26 dc26 pm26 cd26 ct26 oc27 kV27 dc27 pm27 cd27 ct27 oc28 kV28 dc28 pm28 cd28 ct28 oc29 kV29 dc29 pm29 cd29 ct29 oc30 kV30 dc30 pm30 cd30 ct30 oc31 kV31 dc31 pm31 cd31 ct31 oc32 kV32 dc32 pm32 cd32 ct32 oc33 kV33 dc33 pm33 cd33 ct33 oc34 kV34 dc34 pm34 cd34 ct34 oc35 kV35 dc35 pm35 cd35 ct35 oc36 kV36 dc36 pm36 cd36 ct36 oc37 kV37 dc37 pm37 cd37 ct37 oc38 kV38 dc38 pm38 cd38 ct38 oc39 kV39 dc39 pm39 cd39 ct39 oc40 kV40 dc40 pm40 cd40 ct40 oc41 kV41 dc41 pm41 cd41 ct41 oc42 kV42 dc42 pm42 cd42 ct42 oc43 kV43 dc43 pm43 cd43 ct43 oc44 kV44 dc44 pm44 cd44 ct44 oc45 kV45 dc45 pm45 cd45 ct45 oc46 kV46 dc46 pm46 cd46 ct46 oc47 kV47 dc47 pm47 cd47 ct47 oc48 kV48 dc48 pm48 cd48 ct48 oc49 kV49 dc49 pm49 cd49 ct49 oc50 kV50 dc50 pm50 cd50 ct50 oc51 kV51 dc51 pm51 cd51 ct51 oc52 kV52 dc52 pm52 cd52 ct52 oc53 kV53 dc53 pm53 cd53 ct53 oc54 kV54 dc54 pm54 cd54 ct54 : Value} {tk_GREATEST tk_MOST_DAYS tk_MOST_GOODS tk_LONGEST_LIFE tk_SPLIT tk_STRETCH tk_PRICES : Tok}
    (a1 : PySem.W.nsIn K mainGlobals "is_whole" = some (some (.ref f1))) (l1 : K.lookup f1 = some ⟨oc1, od1, .func (PySem.W.fnOf "is_whole" "is_whole" (defArgs s_is_whole) (defBody s_is_whole) (defScope s_is_whole) .none kV1 dc1 pm1 an1 cd1 ct1), sl1⟩) (c1 : PySem.W.codeIn K cd1 "is_whole" = true) (k1 : PySem.W.keepIn K (.ref f1) = true)
    (a2 : PySem.W.nsIn K mainGlobals "is_number" = some (some (.ref f2))) (l2 : K.lookup f2 = some ⟨oc2, od2, .func (PySem.W.fnOf "is_number" "is_number" (defArgs s_is_number) (defBody s_is_number) (defScope s_is_number) .none kV2 dc2 pm2 an2 cd2 ct2), sl2⟩) (c2 : PySem.W.codeIn K cd2 "is_number" = true) (k2 : PySem.W.keepIn K (.ref f2) = true)
    (a3 : PySem.W.nsIn K mainGlobals "is_tuple_of" = some (some (.ref f3))) (l3 : K.lookup f3 = some ⟨oc3, od3, .func (PySem.W.fnOf "is_tuple_of" "is_tuple_of" (defArgs s_is_tuple_of) (defBody s_is_tuple_of) (defScope s_is_tuple_of) .none kV3 dc3 pm3 an3 cd3 ct3), sl3⟩) (c3 : PySem.W.codeIn K cd3 "is_tuple_of" = true) (k3 : PySem.W.keepIn K (.ref f3) = true)
    (a4 : PySem.W.nsIn K mainGlobals "is_list_of" = some (some (.ref f4))) (l4 : K.lookup f4 = some ⟨oc4, od4, .func (PySem.W.fnOf "is_list_of" "is_list_of" (defArgs s_is_list_of) (defBody s_is_list_of) (defScope s_is_list_of) .none kV4 dc4 pm4 an4 cd4 ct4), sl4⟩) (c4 : PySem.W.codeIn K cd4 "is_list_of" = true) (k4 : PySem.W.keepIn K (.ref f4) = true)
    (a5 : PySem.W.nsIn K mainGlobals "are_whole" = some (some (.ref f5))) (l5 : K.lookup f5 = some ⟨oc5, od5, .func (PySem.W.fnOf "are_whole" "are_whole" (defArgs s_are_whole) (defBody s_are_whole) (defScope s_are_whole) .none kV5 dc5 pm5 an5 cd5 ct5), sl5⟩) (c5 : PySem.W.codeIn K cd5 "are_whole" = true) (k5 : PySem.W.keepIn K (.ref f5) = true)
    (a6 : PySem.W.nsIn K mainGlobals "are_lights" = some (some (.ref f6))) (l6 : K.lookup f6 = some ⟨oc6, od6, .func (PySem.W.fnOf "are_lights" "are_lights" (defArgs s_are_lights) (defBody s_are_lights) (defScope s_are_lights) .none kV6 dc6 pm6 an6 cd6 ct6), sl6⟩) (c6 : PySem.W.codeIn K cd6 "are_lights" = true) (k6 : PySem.W.keepIn K (.ref f6) = true)
    (a7 : PySem.W.nsIn K mainGlobals "is_bound" = some (some (.ref f7))) (l7 : K.lookup f7 = some ⟨oc7, od7, .func (PySem.W.fnOf "is_bound" "is_bound" (defArgs s_is_bound) (defBody s_is_bound) (defScope s_is_bound) .none kV7 dc7 pm7 an7 cd7 ct7), sl7⟩) (c7 : PySem.W.codeIn K cd7 "is_bound" = true) (k7 : PySem.W.keepIn K (.ref f7) = true)
    (a8 : PySem.W.nsIn K mainGlobals "is_life" = some (some (.ref f8))) (l8 : K.lookup f8 = some ⟨oc8, od8, .func (PySem.W.fnOf "is_life" "is_life" (defArgs s_is_life) (defBody s_is_life) (defScope s_is_life) .none kV8 dc8 pm8 an8 cd8 ct8), sl8⟩) (c8 : PySem.W.codeIn K cd8 "is_life" = true) (k8 : PySem.W.keepIn K (.ref f8) = true)
    (a9 : PySem.W.nsIn K mainGlobals "is_day" = some (some (.ref f9))) (l9 : K.lookup f9 = some ⟨oc9, od9, .func (PySem.W.fnOf "is_day" "is_day" (defArgs s_is_day) (defBody s_is_day) (defScope s_is_day) .none kV9 dc9 pm9 an9 cd9 ct9), sl9⟩) (c9 : PySem.W.codeIn K cd9 "is_day" = true) (k9 : PySem.W.keepIn K (.ref f9) = true)
    (a10 : PySem.W.nsIn K mainGlobals "has_bakery_form" = some (some (.ref f10))) (l10 : K.lookup f10 = some ⟨oc10, od10, .func (PySem.W.fnOf "has_bakery_form" "has_bakery_form" (defArgs s_has_bakery_form) (defBody s_has_bakery_form) (defScope s_has_bakery_form) .none kV10 dc10 pm10 an10 cd10 ct10), sl10⟩) (c10 : PySem.W.codeIn K cd10 "has_bakery_form" = true) (k10 : PySem.W.keepIn K (.ref f10) = true)
    (a11 : PySem.W.nsIn K mainGlobals "has_good_form" = some (some (.ref f11))) (l11 : K.lookup f11 = some ⟨oc11, od11, .func (PySem.W.fnOf "has_good_form" "has_good_form" (defArgs s_has_good_form) (defBody s_has_good_form) (defScope s_has_good_form) .none kV11 dc11 pm11 an11 cd11 ct11), sl11⟩) (c11 : PySem.W.codeIn K cd11 "has_good_form" = true) (k11 : PySem.W.keepIn K (.ref f11) = true)
    (a12 : PySem.W.nsIn K mainGlobals "look_at_goods" = some (some (.ref f12))) (l12 : K.lookup f12 = some ⟨oc12, od12, .func (PySem.W.fnOf "look_at_goods" "look_at_goods" (defArgs s_look_at_goods) (defBody s_look_at_goods) (defScope s_look_at_goods) .none kV12 dc12 pm12 an12 cd12 ct12), sl12⟩) (c12 : PySem.W.codeIn K cd12 "look_at_goods" = true) (k12 : PySem.W.keepIn K (.ref f12) = true)
    (a13 : PySem.W.nsIn K mainGlobals "look_at_bakery" = some (some (.ref f13))) (l13 : K.lookup f13 = some ⟨oc13, od13, .func (PySem.W.fnOf "look_at_bakery" "look_at_bakery" (defArgs s_look_at_bakery) (defBody s_look_at_bakery) (defScope s_look_at_bakery) .none kV13 dc13 pm13 an13 cd13 ct13), sl13⟩) (c13 : PySem.W.codeIn K cd13 "look_at_bakery" = true) (k13 : PySem.W.keepIn K (.ref f13) = true)
    (a14 : PySem.W.nsIn K mainGlobals "is_place" = some (some (.ref f14))) (l14 : K.lookup f14 = some ⟨oc14, od14, .func (PySem.W.fnOf "is_place" "is_place" (defArgs s_is_place) (defBody s_is_place) (defScope s_is_place) .none kV14 dc14 pm14 an14 cd14 ct14), sl14⟩) (c14 : PySem.W.codeIn K cd14 "is_place" = true) (k14 : PySem.W.keepIn K (.ref f14) = true)
    (a15 : PySem.W.nsIn K mainGlobals "look_at_days" = some (some (.ref f15))) (l15 : K.lookup f15 = some ⟨oc15, od15, .func (PySem.W.fnOf "look_at_days" "look_at_days" (defArgs s_look_at_days) (defBody s_look_at_days) (defScope s_look_at_days) .none kV15 dc15 pm15 an15 cd15 ct15), sl15⟩) (c15 : PySem.W.codeIn K cd15 "look_at_days" = true) (k15 : PySem.W.keepIn K (.ref f15) = true)
    (a16 : PySem.W.nsIn K mainGlobals "keeps_of" = some (some (.ref f16))) (l16 : K.lookup f16 = some ⟨oc16, od16, .func (PySem.W.fnOf "keeps_of" "keeps_of" (defArgs s_keeps_of) (defBody s_keeps_of) (defScope s_keeps_of) .none kV16 dc16 pm16 an16 cd16 ct16), sl16⟩) (c16 : PySem.W.codeIn K cd16 "keeps_of" = true) (k16 : PySem.W.keepIn K (.ref f16) = true)
    (a17 : PySem.W.nsIn K mainGlobals "fines_of" = some (some (.ref f17))) (l17 : K.lookup f17 = some ⟨oc17, od17, .func (PySem.W.fnOf "fines_of" "fines_of" (defArgs s_fines_of) (defBody s_fines_of) (defScope s_fines_of) .none kV17 dc17 pm17 an17 cd17 ct17), sl17⟩) (c17 : PySem.W.codeIn K cd17 "fines_of" = true) (k17 : PySem.W.keepIn K (.ref f17) = true)
    (a18 : PySem.W.nsIn K mainGlobals "loaf_price" = some (some (.ref f18))) (l18 : K.lookup f18 = some ⟨oc18, od18, .func (PySem.W.fnOf "loaf_price" "loaf_price" (defArgs s_loaf_price) (defBody s_loaf_price) (defScope s_loaf_price) .none kV18 dc18 pm18 an18 cd18 ct18), sl18⟩) (c18 : PySem.W.codeIn K cd18 "loaf_price" = true) (k18 : PySem.W.keepIn K (.ref f18) = true)
    (a19 : PySem.W.nsIn K mainGlobals "good_reach" = some (some (.ref f19))) (l19 : K.lookup f19 = some ⟨oc19, od19, .func (PySem.W.fnOf "good_reach" "good_reach" (defArgs s_good_reach) (defBody s_good_reach) (defScope s_good_reach) .none kV19 dc19 pm19 an19 cd19 ct19), sl19⟩) (c19 : PySem.W.codeIn K cd19 "good_reach" = true) (k19 : PySem.W.keepIn K (.ref f19) = true)
    (a20 : PySem.W.nsIn K mainGlobals "reached_wants" = some (some (.ref f20))) (l20 : K.lookup f20 = some ⟨oc20, od20, .func (PySem.W.fnOf "reached_wants" "reached_wants" (defArgs s_reached_wants) (defBody s_reached_wants) (defScope s_reached_wants) .none kV20 dc20 pm20 an20 cd20 ct20), sl20⟩) (c20 : PySem.W.codeIn K cd20 "reached_wants" = true) (k20 : PySem.W.keepIn K (.ref f20) = true)
    (a21 : PySem.W.nsIn K mainGlobals "all_wants" = some (some (.ref f21))) (l21 : K.lookup f21 = some ⟨oc21, od21, .func (PySem.W.fnOf "all_wants" "all_wants" (defArgs s_all_wants) (defBody s_all_wants) (defScope s_all_wants) .none kV21 dc21 pm21 an21 cd21 ct21), sl21⟩) (c21 : PySem.W.codeIn K cd21 "all_wants" = true) (k21 : PySem.W.keepIn K (.ref f21) = true)
    (a22 : PySem.W.nsIn K mainGlobals "room_of_day" = some (some (.ref f22))) (l22 : K.lookup f22 = some ⟨oc22, od22, .func (PySem.W.fnOf "room_of_day" "room_of_day" (defArgs s_room_of_day) (defBody s_room_of_day) (defScope s_room_of_day) .none kV22 dc22 pm22 an22 cd22 ct22), sl22⟩) (c22 : PySem.W.codeIn K cd22 "room_of_day" = true) (k22 : PySem.W.keepIn K (.ref f22) = true)
    (a23 : PySem.W.nsIn K mainGlobals "rooms_beside" = some (some (.ref f23))) (l23 : K.lookup f23 = some ⟨oc23, od23, .func (PySem.W.fnOf "rooms_beside" "rooms_beside" (defArgs s_rooms_beside) (defBody s_rooms_beside) (defScope s_rooms_beside) .none kV23 dc23 pm23 an23 cd23 ct23), sl23⟩) (c23 : PySem.W.codeIn K cd23 "rooms_beside" = true) (k23 : PySem.W.keepIn K (.ref f23) = true)
    (a24 : PySem.W.nsIn K mainGlobals "is_stretch" = some (some (.ref f24))) (l24 : K.lookup f24 = some ⟨oc24, od24, .func (PySem.W.fnOf "is_stretch" "is_stretch" (defArgs s_is_stretch) (defBody s_is_stretch) (defScope s_is_stretch) .none kV24 dc24 pm24 an24 cd24 ct24), sl24⟩) (c24 : PySem.W.codeIn K cd24 "is_stretch" = true) (k24 : PySem.W.keepIn K (.ref f24) = true)
    (a25 : PySem.W.nsIn K mainGlobals "wants_too_much" = some (some (.ref f25))) (l25 : K.lookup f25 = some ⟨oc25, od25, .func (PySem.W.fnOf "wants_too_much" "wants_too_much" (defArgs s_wants_too_much) (defBody s_wants_too_much) (defScope s_wants_too_much) .none kV25 dc25 pm25 an25 cd25 ct25), sl25⟩) (c25 : PySem.W.codeIn K cd25 "wants_too_much" = true) (k25 : PySem.W.keepIn K (.ref f25) = true)
    (a26 : PySem.W.nsIn K mainGlobals "are_loaf_prices" = some (some (.ref f26))) (l26 : K.lookup f26 = some ⟨oc26, od26, .func (PySem.W.fnOf "are_loaf_prices" "are_loaf_prices" (defArgs s_are_loaf_prices) (defBody s_are_loaf_prices) (defScope s_are_loaf_prices) .none kV26 dc26 pm26 an26 cd26 ct26), sl26⟩) (c26 : PySem.W.codeIn K cd26 "are_loaf_prices" = true) (k26 : PySem.W.keepIn K (.ref f26) = true)
    (a27 : PySem.W.nsIn K mainGlobals "offers_on" = some (some (.ref f27))) (l27 : K.lookup f27 = some ⟨oc27, od27, .func (PySem.W.fnOf "offers_on" "offers_on" (defArgs s_offers_on) (defBody s_offers_on) (defScope s_offers_on) .none kV27 dc27 pm27 an27 cd27 ct27), sl27⟩) (c27 : PySem.W.codeIn K cd27 "offers_on" = true) (k27 : PySem.W.keepIn K (.ref f27) = true)
    (a28 : PySem.W.nsIn K mainGlobals "gain_on" = some (some (.ref f28))) (l28 : K.lookup f28 = some ⟨oc28, od28, .func (PySem.W.fnOf "gain_on" "gain_on" (defArgs s_gain_on) (defBody s_gain_on) (defScope s_gain_on) .none kV28 dc28 pm28 an28 cd28 ct28), sl28⟩) (c28 : PySem.W.codeIn K cd28 "gain_on" = true) (k28 : PySem.W.keepIn K (.ref f28) = true)
    (a29 : PySem.W.nsIn K mainGlobals "worth_of_wants" = some (some (.ref f29))) (l29 : K.lookup f29 = some ⟨oc29, od29, .func (PySem.W.fnOf "worth_of_wants" "worth_of_wants" (defArgs s_worth_of_wants) (defBody s_worth_of_wants) (defScope s_worth_of_wants) .none kV29 dc29 pm29 an29 cd29 ct29), sl29⟩) (c29 : PySem.W.codeIn K cd29 "worth_of_wants" = true) (k29 : PySem.W.keepIn K (.ref f29) = true)
    (a30 : PySem.W.nsIn K mainGlobals "bottom" = some (some (.ref f30))) (l30 : K.lookup f30 = some ⟨oc30, od30, .func (PySem.W.fnOf "bottom" "bottom" (defArgs s_bottom) (defBody s_bottom) (defScope s_bottom) .none kV30 dc30 pm30 an30 cd30 ct30), sl30⟩) (c30 : PySem.W.codeIn K cd30 "bottom" = true) (k30 : PySem.W.keepIn K (.ref f30) = true)
    (a31 : PySem.W.nsIn K mainGlobals "is_node" = some (some (.ref f31))) (l31 : K.lookup f31 = some ⟨oc31, od31, .func (PySem.W.fnOf "is_node" "is_node" (defArgs s_is_node) (defBody s_is_node) (defScope s_is_node) .none kV31 dc31 pm31 an31 cd31 ct31), sl31⟩) (c31 : PySem.W.codeIn K cd31 "is_node" = true) (k31 : PySem.W.keepIn K (.ref f31) = true)
    (a32 : PySem.W.nsIn K mainGlobals "is_free_day" = some (some (.ref f32))) (l32 : K.lookup f32 = some ⟨oc32, od32, .func (PySem.W.fnOf "is_free_day" "is_free_day" (defArgs s_is_free_day) (defBody s_is_free_day) (defScope s_is_free_day) .none kV32 dc32 pm32 an32 cd32 ct32), sl32⟩) (c32 : PySem.W.codeIn K cd32 "is_free_day" = true) (k32 : PySem.W.keepIn K (.ref f32) = true)
    (a33 : PySem.W.nsIn K mainGlobals "lets_split" = some (some (.ref f33))) (l33 : K.lookup f33 = some ⟨oc33, od33, .func (PySem.W.fnOf "lets_split" "lets_split" (defArgs s_lets_split) (defBody s_lets_split) (defScope s_lets_split) .none kV33 dc33 pm33 an33 cd33 ct33), sl33⟩) (c33 : PySem.W.codeIn K cd33 "lets_split" = true) (k33 : PySem.W.keepIn K (.ref f33) = true)
    (a34 : PySem.W.nsIn K mainGlobals "lets_node" = some (some (.ref f34))) (l34 : K.lookup f34 = some ⟨oc34, od34, .func (PySem.W.fnOf "lets_node" "lets_node" (defArgs s_lets_node) (defBody s_lets_node) (defScope s_lets_node) .none kV34 dc34 pm34 an34 cd34 ct34), sl34⟩) (c34 : PySem.W.codeIn K cd34 "lets_node" = true) (k34 : PySem.W.keepIn K (.ref f34) = true)
    (a35 : PySem.W.nsIn K mainGlobals "lets_tree" = some (some (.ref f35))) (l35 : K.lookup f35 = some ⟨oc35, od35, .func (PySem.W.fnOf "lets_tree" "lets_tree" (defArgs s_lets_tree) (defBody s_lets_tree) (defScope s_lets_tree) .none kV35 dc35 pm35 an35 cd35 ct35), sl35⟩) (c35 : PySem.W.codeIn K cd35 "lets_tree" = true) (k35 : PySem.W.keepIn K (.ref f35) = true)
    (a36 : PySem.W.nsIn K mainGlobals "_law_cell_at" = some (some (.ref f36))) (l36 : K.lookup f36 = some ⟨oc36, od36, .func (PySem.W.fnOf "_law_cell_at" "_law_cell_at" (defArgs s_cell_at) (defBody s_cell_at) (defScope s_cell_at) .none kV36 dc36 pm36 an36 cd36 ct36), sl36⟩) (c36 : PySem.W.codeIn K cd36 "_law_cell_at" = true) (k36 : PySem.W.keepIn K (.ref f36) = true)
    (a37 : PySem.W.nsIn K mainGlobals "_law_numbers" = some (some (.ref f37))) (l37 : K.lookup f37 = some ⟨oc37, od37, .func (PySem.W.fnOf "_law_numbers" "_law_numbers" (defArgs s_numbers) (defBody s_numbers) (defScope s_numbers) .none kV37 dc37 pm37 an37 cd37 ct37), sl37⟩) (c37 : PySem.W.codeIn K cd37 "_law_numbers" = true) (k37 : PySem.W.keepIn K (.ref f37) = true)
    (a38 : PySem.W.nsIn K mainGlobals "_law_day" = some (some (.ref f38))) (l38 : K.lookup f38 = some ⟨oc38, od38, .func (PySem.W.fnOf "_law_day" "_law_day" (defArgs s_day) (defBody s_day) (defScope s_day) .none kV38 dc38 pm38 an38 cd38 ct38), sl38⟩) (c38 : PySem.W.codeIn K cd38 "_law_day" = true) (k38 : PySem.W.keepIn K (.ref f38) = true)
    (a39 : PySem.W.nsIn K mainGlobals "_law_days" = some (some (.ref f39))) (l39 : K.lookup f39 = some ⟨oc39, od39, .func (PySem.W.fnOf "_law_days" "_law_days" (defArgs s_days) (defBody s_days) (defScope s_days) .none kV39 dc39 pm39 an39 cd39 ct39), sl39⟩) (c39 : PySem.W.codeIn K cd39 "_law_days" = true) (k39 : PySem.W.keepIn K (.ref f39) = true)
    (a40 : PySem.W.nsIn K mainGlobals "_law_two" = some (some (.ref f40))) (l40 : K.lookup f40 = some ⟨oc40, od40, .func (PySem.W.fnOf "_law_two" "_law_two" (defArgs s_two) (defBody s_two) (defScope s_two) .none kV40 dc40 pm40 an40 cd40 ct40), sl40⟩) (c40 : PySem.W.codeIn K cd40 "_law_two" = true) (k40 : PySem.W.keepIn K (.ref f40) = true)
    (a41 : PySem.W.nsIn K mainGlobals "_law_odd" = some (some (.ref f41))) (l41 : K.lookup f41 = some ⟨oc41, od41, .func (PySem.W.fnOf "_law_odd" "_law_odd" (defArgs s_odd) (defBody s_odd) (defScope s_odd) .none kV41 dc41 pm41 an41 cd41 ct41), sl41⟩) (c41 : PySem.W.codeIn K cd41 "_law_odd" = true) (k41 : PySem.W.keepIn K (.ref f41) = true)
    (a42 : PySem.W.nsIn K mainGlobals "_law_price" = some (some (.ref f42))) (l42 : K.lookup f42 = some ⟨oc42, od42, .func (PySem.W.fnOf "_law_price" "_law_price" (defArgs s_price) (defBody s_price) (defScope s_price) .none kV42 dc42 pm42 an42 cd42 ct42), sl42⟩) (c42 : PySem.W.codeIn K cd42 "_law_price" = true) (k42 : PySem.W.keepIn K (.ref f42) = true)
    (a43 : PySem.W.nsIn K mainGlobals "_law_gain" = some (some (.ref f43))) (l43 : K.lookup f43 = some ⟨oc43, od43, .func (PySem.W.fnOf "_law_gain" "_law_gain" (defArgs s_gain_l) (defBody s_gain_l) (defScope s_gain_l) .none kV43 dc43 pm43 an43 cd43 ct43), sl43⟩) (c43 : PySem.W.codeIn K cd43 "_law_gain" = true) (k43 : PySem.W.keepIn K (.ref f43) = true)
    (a44 : PySem.W.nsIn K mainGlobals "_law_bottom" = some (some (.ref f44))) (l44 : K.lookup f44 = some ⟨oc44, od44, .func (PySem.W.fnOf "_law_bottom" "_law_bottom" (defArgs s_bottom_l) (defBody s_bottom_l) (defScope s_bottom_l) .none kV44 dc44 pm44 an44 cd44 ct44), sl44⟩) (c44 : PySem.W.codeIn K cd44 "_law_bottom" = true) (k44 : PySem.W.keepIn K (.ref f44) = true)
    (a45 : PySem.W.nsIn K mainGlobals "_law_beyond" = some (some (.ref f45))) (l45 : K.lookup f45 = some ⟨oc45, od45, .func (PySem.W.fnOf "_law_beyond" "_law_beyond" (defArgs s_beyond) (defBody s_beyond) (defScope s_beyond) .none kV45 dc45 pm45 an45 cd45 ct45), sl45⟩) (c45 : PySem.W.codeIn K cd45 "_law_beyond" = true) (k45 : PySem.W.keepIn K (.ref f45) = true)
    (a46 : PySem.W.nsIn K mainGlobals "_law_whole" = some (some (.ref f46))) (l46 : K.lookup f46 = some ⟨oc46, od46, .func (PySem.W.fnOf "_law_whole" "_law_whole" (defArgs s_whole) (defBody s_whole) (defScope s_whole) .none kV46 dc46 pm46 an46 cd46 ct46), sl46⟩) (c46 : PySem.W.codeIn K cd46 "_law_whole" = true) (k46 : PySem.W.keepIn K (.ref f46) = true)
    (a47 : PySem.W.nsIn K mainGlobals "_law_are_loaf_prices" = some (some (.ref f47))) (l47 : K.lookup f47 = some ⟨oc47, od47, .func (PySem.W.fnOf "_law_are_loaf_prices" "_law_are_loaf_prices" (defArgs s_are_loaf_prices_l) (defBody s_are_loaf_prices_l) (defScope s_are_loaf_prices_l) .none kV47 dc47 pm47 an47 cd47 ct47), sl47⟩) (c47 : PySem.W.codeIn K cd47 "_law_are_loaf_prices" = true) (k47 : PySem.W.keepIn K (.ref f47) = true)
    (a48 : PySem.W.nsIn K mainGlobals "_law_is_tree" = some (some (.ref f48))) (l48 : K.lookup f48 = some ⟨oc48, od48, .func (PySem.W.fnOf "_law_is_tree" "_law_is_tree" (defArgs s_is_tree) (defBody s_is_tree) (defScope s_is_tree) .none kV48 dc48 pm48 an48 cd48 ct48), sl48⟩) (c48 : PySem.W.codeIn K cd48 "_law_is_tree" = true) (k48 : PySem.W.keepIn K (.ref f48) = true)
    (a49 : PySem.W.nsIn K mainGlobals "_law_prices_drawn" = some (some (.ref f49))) (l49 : K.lookup f49 = some ⟨oc49, od49, .func (PySem.W.fnOf "_law_prices_drawn" "_law_prices_drawn" (defArgs s_prices_drawn) (defBody s_prices_drawn) (defScope s_prices_drawn) .none kV49 dc49 pm49 an49 cd49 ct49), sl49⟩) (c49 : PySem.W.codeIn K cd49 "_law_prices_drawn" = true) (k49 : PySem.W.keepIn K (.ref f49) = true)
    (a50 : PySem.W.nsIn K mainGlobals "_law_tree_drawn" = some (some (.ref f50))) (l50 : K.lookup f50 = some ⟨oc50, od50, .func (PySem.W.fnOf "_law_tree_drawn" "_law_tree_drawn" (defArgs s_tree_drawn) (defBody s_tree_drawn) (defScope s_tree_drawn) .none kV50 dc50 pm50 an50 cd50 ct50), sl50⟩) (c50 : PySem.W.codeIn K cd50 "_law_tree_drawn" = true) (k50 : PySem.W.keepIn K (.ref f50) = true)
    (a51 : PySem.W.nsIn K mainGlobals "_law_prices_bent" = some (some (.ref f51))) (l51 : K.lookup f51 = some ⟨oc51, od51, .func (PySem.W.fnOf "_law_prices_bent" "_law_prices_bent" (defArgs s_prices_bent) (defBody s_prices_bent) (defScope s_prices_bent) .none kV51 dc51 pm51 an51 cd51 ct51), sl51⟩) (c51 : PySem.W.codeIn K cd51 "_law_prices_bent" = true) (k51 : PySem.W.keepIn K (.ref f51) = true)
    (a52 : PySem.W.nsIn K mainGlobals "_law_bent" = some (some (.ref f52))) (l52 : K.lookup f52 = some ⟨oc52, od52, .func (PySem.W.fnOf "_law_bent" "_law_bent" (defArgs s_bent) (defBody s_bent) (defScope s_bent) .none kV52 dc52 pm52 an52 cd52 ct52), sl52⟩) (c52 : PySem.W.codeIn K cd52 "_law_bent" = true) (k52 : PySem.W.keepIn K (.ref f52) = true)
    (a53 : PySem.W.nsIn K mainGlobals "_law_leaves" = some (some (.ref f53))) (l53 : K.lookup f53 = some ⟨oc53, od53, .func (PySem.W.fnOf "_law_leaves" "_law_leaves" (defArgs s_leaves) (defBody s_leaves) (defScope s_leaves) .none kV53 dc53 pm53 an53 cd53 ct53), sl53⟩) (c53 : PySem.W.codeIn K cd53 "_law_leaves" = true) (k53 : PySem.W.keepIn K (.ref f53) = true)
    (a54 : PySem.W.nsIn K mainGlobals "law" = some (some (.ref f54))) (l54 : K.lookup f54 = some ⟨oc54, od54, .func (PySem.W.fnOf "law" "law" (defArgs s_law) (defBody s_law) (defScope s_law) .none kV54 dc54 pm54 an54 cd54 ct54), sl54⟩) (c54 : PySem.W.codeIn K cd54 "law" = true) (k54 : PySem.W.keepIn K (.ref f54) = true)
    (z_len : PySem.W.nsIn K mainGlobals "len" = some none) (z_max : PySem.W.nsIn K mainGlobals "max" = some none) (z_min : PySem.W.nsIn K mainGlobals "min" = some none) (z_range : PySem.W.nsIn K mainGlobals "range" = some none) (z_isinstance : PySem.W.nsIn K mainGlobals "isinstance" = some none) (z_int : PySem.W.nsIn K mainGlobals "int" = some none) (z_bool : PySem.W.nsIn K mainGlobals "bool" = some none) (z_list : PySem.W.nsIn K mainGlobals "list" = some none) (z_tuple : PySem.W.nsIn K mainGlobals "tuple" = some none) (z_all : PySem.W.nsIn K mainGlobals "all" = some none) (z_sum : PySem.W.nsIn K mainGlobals "sum" = some none) (z_repr : PySem.W.nsIn K mainGlobals "repr" = some none) (z_enumerate : PySem.W.nsIn K mainGlobals "enumerate" = some none) (z_str : PySem.W.nsIn K mainGlobals "str" = some none) (z_sorted : PySem.W.nsIn K mainGlobals "sorted" = some none) (z_zip : PySem.W.nsIn K mainGlobals "zip" = some none) (y_GREATEST : PySem.W.nsIn K mainGlobals "GREATEST" = some (some (.int 1000000000 tk_GREATEST))) (y_MOST_DAYS : PySem.W.nsIn K mainGlobals "MOST_DAYS" = some (some (.int 40 tk_MOST_DAYS))) (y_MOST_GOODS : PySem.W.nsIn K mainGlobals "MOST_GOODS" = some (some (.int 2 tk_MOST_GOODS))) (y_LONGEST_LIFE : PySem.W.nsIn K mainGlobals "LONGEST_LIFE" = some (some (.int 40 tk_LONGEST_LIFE))) (y_SPLIT : PySem.W.nsIn K mainGlobals "SPLIT" = some (some (.str "split" tk_SPLIT))) (y_STRETCH : PySem.W.nsIn K mainGlobals "STRETCH" = some (some (.str "stretch" tk_STRETCH))) (y_PRICES : PySem.W.nsIn K mainGlobals "PRICES" = some (some (.str "prices" tk_PRICES))) :
    ∃ fd : FuncData, (∀ (s : Shared) (v : Value), BindsTo s fd ⟨[v], []⟩ [("_law_script", v)]) ∧ ∀ base : Heap, K.In base → base.Ns mainGlobals mg → RunG l.prog w K mg base 50 fa fd ["_law_script"] (spLaw K) := by
  have e := hfa.symm.trans (PySem.W.mg_of X G a54)
  cases e
  have F1 := fun_mk (st := s_is_whole) l1 c1 k1
  have b1 := F1.binds (ps := ["thing"]) fun _ _ _ _ _ _ us hl => match us, hl with | [_], _ => rfl
  have F2 := fun_mk (st := s_is_number) l2 c2 k2
  have b2 := F2.binds (ps := ["thing"]) fun _ _ _ _ _ _ us hl => match us, hl with | [_], _ => rfl
  have F3 := fun_mk (st := s_is_tuple_of) l3 c3 k3
  have b3 := F3.binds (ps := ["thing", "many"]) fun _ _ _ _ _ _ us hl => match us, hl with | [_, _], _ => rfl
  have F4 := fun_mk (st := s_is_list_of) l4 c4 k4
  have b4 := F4.binds (ps := ["thing", "fewest", "most"]) fun _ _ _ _ _ _ us hl => match us, hl with | [_, _, _], _ => rfl
  have F5 := fun_mk (st := s_are_whole) l5 c5 k5
  have b5 := F5.binds (ps := ["thing", "many"]) fun _ _ _ _ _ _ us hl => match us, hl with | [_, _], _ => rfl
  have F6 := fun_mk (st := s_are_lights) l6 c6 k6
  have b6 := F6.binds (ps := ["thing"]) fun _ _ _ _ _ _ us hl => match us, hl with | [_], _ => rfl
  have F7 := fun_mk (st := s_is_bound) l7 c7 k7
  have b7 := F7.binds (ps := ["thing"]) fun _ _ _ _ _ _ us hl => match us, hl with | [_], _ => rfl
  have F8 := fun_mk (st := s_is_life) l8 c8 k8
  have b8 := F8.binds (ps := ["thing"]) fun _ _ _ _ _ _ us hl => match us, hl with | [_], _ => rfl
  have F9 := fun_mk (st := s_is_day) l9 c9 k9
  have b9 := F9.binds (ps := ["thing"]) fun _ _ _ _ _ _ us hl => match us, hl with | [_], _ => rfl
  have F10 := fun_mk (st := s_has_bakery_form) l10 c10 k10
  have b10 := F10.binds (ps := ["thing"]) fun _ _ _ _ _ _ us hl => match us, hl with | [_], _ => rfl
  have F11 := fun_mk (st := s_has_good_form) l11 c11 k11
  have b11 := F11.binds (ps := ["thing", "many"]) fun _ _ _ _ _ _ us hl => match us, hl with | [_, _], _ => rfl
  have F12 := fun_mk (st := s_look_at_goods) l12 c12 k12
  have b12 := F12.binds (ps := ["goods", "many"]) fun _ _ _ _ _ _ us hl => match us, hl with | [_, _], _ => rfl
  have F13 := fun_mk (st := s_look_at_bakery) l13 c13 k13
  have b13 := F13.binds (ps := ["thing"]) fun _ _ _ _ _ _ us hl => match us, hl with | [_], _ => rfl
  have F14 := fun_mk (st := s_is_place) l14 c14 k14
  have b14 := F14.binds (ps := ["thing", "many"]) fun _ _ _ _ _ _ us hl => match us, hl with | [_, _], _ => rfl
  have F15 := fun_mk (st := s_look_at_days) l15 c15 k15
  have b15 := F15.binds (ps := ["bakery", "thing"]) fun _ _ _ _ _ _ us hl => match us, hl with | [_, _], _ => rfl
  have F16 := fun_mk (st := s_keeps_of) l16 c16 k16
  have b16 := F16.binds (ps := ["days", "first", "behind"]) fun _ _ _ _ _ _ us hl => match us, hl with | [_, _, _], _ => rfl
  have F17 := fun_mk (st := s_fines_of) l17 c17 k17
  have b17 := F17.binds (ps := ["days", "first", "behind"]) fun _ _ _ _ _ _ us hl => match us, hl with | [_, _, _], _ => rfl
  have F18 := fun_mk (st := s_loaf_price) l18 c18 k18
  have b18 := F18.binds (ps := ["good", "baked", "given"]) fun _ _ _ _ _ _ us hl => match us, hl with | [_, _, _], _ => rfl
  have F19 := fun_mk (st := s_good_reach) l19 c19 k19
  have b19 := F19.binds (ps := ["good", "given"]) fun _ _ _ _ _ _ us hl => match us, hl with | [_, _], _ => rfl
  have F20 := fun_mk (st := s_reached_wants) l20 c20 k20
  have b20 := F20.binds (ps := ["good"]) fun _ _ _ _ _ _ us hl => match us, hl with | [_], _ => rfl
  have F21 := fun_mk (st := s_all_wants) l21 c21 k21
  have b21 := F21.binds (ps := ["bakery"]) fun _ _ _ _ _ _ us hl => match us, hl with | [_], _ => rfl
  have F22 := fun_mk (st := s_room_of_day) l22 c22 k22
  have b22 := F22.binds (ps := ["bakery"]) fun _ _ _ _ _ _ us hl => match us, hl with | [_], _ => rfl
  have F23 := fun_mk (st := s_rooms_beside) l23 c23 k23
  have b23 := F23.binds (ps := ["bakery", "dark"]) fun _ _ _ _ _ _ us hl => match us, hl with | [_, _], _ => rfl
  have F24 := fun_mk (st := s_is_stretch) l24 c24 k24
  have b24 := F24.binds (ps := ["bakery", "thing"]) fun _ _ _ _ _ _ us hl => match us, hl with | [_, _], _ => rfl
  have F25 := fun_mk (st := s_wants_too_much) l25 c25 k25
  have b25 := F25.binds (ps := ["bakery", "dark", "thing"]) fun _ _ _ _ _ _ us hl => match us, hl with | [_, _, _], _ => rfl
  have F26 := fun_mk (st := s_are_loaf_prices) l26 c26 k26
  have b26 := F26.binds (ps := ["bakery", "thing"]) fun _ _ _ _ _ _ us hl => match us, hl with | [_, _], _ => rfl
  have F27 := fun_mk (st := s_offers_on) l27 c27 k27
  have b27 := F27.binds (ps := ["bakery", "prices", "baked"]) fun _ _ _ _ _ _ us hl => match us, hl with | [_, _, _], _ => rfl
  have F28 := fun_mk (st := s_gain_on) l28 c28 k28
  have b28 := F28.binds (ps := ["bakery", "prices", "day"]) fun _ _ _ _ _ _ us hl => match us, hl with | [_, _, _], _ => rfl
  have F29 := fun_mk (st := s_worth_of_wants) l29 c29 k29
  have b29 := F29.binds (ps := ["bakery", "prices"]) fun _ _ _ _ _ _ us hl => match us, hl with | [_, _], _ => rfl
  have F30 := fun_mk (st := s_bottom) l30 c30 k30
  have b30 := F30.binds (ps := ["bakery", "prices", "lit", "dark"]) fun _ _ _ _ _ _ us hl => match us, hl with | [_, _, _, _], _ => rfl
  have F31 := fun_mk (st := s_is_node) l31 c31 k31
  have b31 := F31.binds (ps := ["thing", "word", "many"]) fun _ _ _ _ _ _ us hl => match us, hl with | [_, _, _], _ => rfl
  have F32 := fun_mk (st := s_is_free_day) l32 c32 k32
  have b32 := F32.binds (ps := ["bakery", "lit", "dark", "thing"]) fun _ _ _ _ _ _ us hl => match us, hl with | [_, _, _, _], _ => rfl
  have F33 := fun_mk (st := s_lets_split) l33 c33 k33
  have b33 := F33.binds (ps := ["bakery", "cost", "thing", "lit", "dark"]) fun _ _ _ _ _ _ us hl => match us, hl with | [_, _, _, _, _], _ => rfl
  have F34 := fun_mk (st := s_lets_node) l34 c34 k34
  have b34 := F34.binds (ps := ["bakery", "cost", "thing", "lit", "dark"]) fun _ _ _ _ _ _ us hl => match us, hl with | [_, _, _, _, _], _ => rfl
  have F35 := fun_mk (st := s_lets_tree) l35 c35 k35
  have b35 := F35.binds (ps := ["bakery", "cost", "thing"]) fun _ _ _ _ _ _ us hl => match us, hl with | [_, _, _], _ => rfl
  have F36 := fun_mk (st := s_cell_at) l36 c36 k36
  have b36 := F36.binds (ps := ["_law_script", "_law_k"]) fun _ _ _ _ _ _ us hl => match us, hl with | [_, _], _ => rfl
  have F37 := fun_mk (st := s_numbers) l37 c37 k37
  have b37 := F37.binds (ps := ["_law_cell", "_law_salt", "_law_sizes"]) fun _ _ _ _ _ _ us hl => match us, hl with | [_, _, _], _ => rfl
  have F38 := fun_mk (st := s_day) l38 c38 k38
  have b38 := F38.binds (ps := ["_law_digits", "_law_late"]) fun _ _ _ _ _ _ us hl => match us, hl with | [_, _], _ => rfl
  have F39 := fun_mk (st := s_days) l39 c39 k39
  have b39 := F39.binds (ps := ["_law_script", "_law_first", "_law_upto", "_law_salt", "_law_late"]) fun _ _ _ _ _ _ us hl => match us, hl with | [_, _, _, _, _], _ => rfl
  have F40 := fun_mk (st := s_two) l40 c40 k40
  have b40 := F40.binds (ps := ["_law_script", "_law_upto", "_law_salt"]) fun _ _ _ _ _ _ us hl => match us, hl with | [_, _, _], _ => rfl
  have F41 := fun_mk (st := s_odd) l41 c41 k41
  have b41 := F41.binds (ps := ["_law_digit"]) fun _ _ _ _ _ _ us hl => match us, hl with | [_], _ => rfl
  have F42 := fun_mk (st := s_price) l42 c42 k42
  have b42 := F42.binds (ps := ["_law_good", "_law_baked", "_law_given"]) fun _ _ _ _ _ _ us hl => match us, hl with | [_, _, _], _ => rfl
  have F43 := fun_mk (st := s_gain_l) l43 c43 k43
  have b43 := F43.binds (ps := ["_law_bakery", "_law_prices", "_law_day_here"]) fun _ _ _ _ _ _ us hl => match us, hl with | [_, _, _], _ => rfl
  have F44 := fun_mk (st := s_bottom_l) l44 c44 k44
  have b44 := F44.binds (ps := ["_law_bakery", "_law_prices", "_law_lit", "_law_dark"]) fun _ _ _ _ _ _ us hl => match us, hl with | [_, _, _, _], _ => rfl
  have F45 := fun_mk (st := s_beyond) l45 c45 k45
  have b45 := F45.binds (ps := ["_law_bakery", "_law_dark", "_law_first", "_law_last"]) fun _ _ _ _ _ _ us hl => match us, hl with | [_, _, _, _], _ => rfl
  have F46 := fun_mk (st := s_whole) l46 c46 k46
  have b46 := F46.binds (ps := ["_law_thing"]) fun _ _ _ _ _ _ us hl => match us, hl with | [_], _ => rfl
  have F47 := fun_mk (st := s_are_loaf_prices_l) l47 c47 k47
  have b47 := F47.binds (ps := ["_law_bakery", "_law_thing"]) fun _ _ _ _ _ _ us hl => match us, hl with | [_, _], _ => rfl
  have F48 := fun_mk (st := s_is_tree) l48 c48 k48
  have b48 := F48.binds (ps := ["_law_bakery", "_law_cost", "_law_thing", "_law_lit", "_law_dark"]) fun _ _ _ _ _ _ us hl => match us, hl with | [_, _, _, _, _], _ => rfl
  have F49 := fun_mk (st := s_prices_drawn) l49 c49 k49
  have b49 := F49.binds (ps := ["_law_bakery", "_law_digits"]) fun _ _ _ _ _ _ us hl => match us, hl with | [_, _], _ => rfl
  have F50 := fun_mk (st := s_tree_drawn) l50 c50 k50
  have b50 := F50.binds (ps := ["_law_bakery", "_law_digits", "_law_deep"]) fun _ _ _ _ _ _ us hl => match us, hl with | [_, _, _], _ => rfl
  have F51 := fun_mk (st := s_prices_bent) l51 c51 k51
  have b51 := F51.binds (ps := ["_law_rows", "_law_digits"]) fun _ _ _ _ _ _ us hl => match us, hl with | [_, _], _ => rfl
  have F52 := fun_mk (st := s_bent) l52 c52 k52
  have b52 := F52.binds (ps := ["_law_tree", "_law_digits"]) fun _ _ _ _ _ _ us hl => match us, hl with | [_, _], _ => rfl
  have F53 := fun_mk (st := s_leaves) l53 c53 k53
  have b53 := F53.binds (ps := ["_law_bakery", "_law_tree", "_law_lit", "_law_dark"]) fun _ _ _ _ _ _ us hl => match us, hl with | [_, _, _, _], _ => rfl
  have F54 := fun_mk (st := s_law) l54 c54 k54
  have b54 := F54.binds (ps := ["_law_script"]) fun _ _ _ _ _ _ us hl => match us, hl with | [_], _ => rfl
  have B : Bi mg := ⟨PySem.W.mg_none_of X G z_len, PySem.W.mg_none_of X G z_max, PySem.W.mg_none_of X G z_min, PySem.W.mg_none_of X G z_range, PySem.W.mg_none_of X G z_isinstance, PySem.W.mg_none_of X G z_int, PySem.W.mg_none_of X G z_bool, PySem.W.mg_none_of X G z_list, PySem.W.mg_none_of X G z_tuple, PySem.W.mg_none_of X G z_all, PySem.W.mg_none_of X G z_sum, PySem.W.mg_none_of X G z_repr, PySem.W.mg_none_of X G z_enumerate⟩
  have M_GREATEST := PySem.W.mg_of X G y_GREATEST
  have M_MOST_DAYS := PySem.W.mg_of X G y_MOST_DAYS
  have M_MOST_GOODS := PySem.W.mg_of X G y_MOST_GOODS
  have M_LONGEST_LIFE := PySem.W.mg_of X G y_LONGEST_LIFE
  have M_SPLIT := PySem.W.mg_of X G y_SPLIT
  have M_STRETCH := PySem.W.mg_of X G y_STRETCH
  have M_PRICES := PySem.W.mg_of X G y_PRICES
  refine ⟨PySem.W.fnOf "law" "law" (defArgs s_law) (defBody s_law) (defScope s_law) .none kV54 dc54 pm54 an54 cd54 ct54, fun s v => .of_eq rfl, fun base _ _ => ?_⟩
  have Bz := PySem.W.mg_none_of X G z_zip
  have Bs := PySem.W.mg_none_of X G z_sorted
  have Bq := PySem.W.mg_none_of X G z_str
  have D1 : Def l.prog w K mg base "is_whole" 1 ["thing"] (spWhole K) := ⟨_, _, PySem.W.mg_of X G a1, k1, b1, ok_is_whole F1 B⟩
  have D2 : Def l.prog w K mg base "is_number" 2 ["thing"] (spNum K) := ⟨_, _, PySem.W.mg_of X G a2, k2, b2, ok_is_number (k := 0) F2 B M_GREATEST D1⟩
  have D3 : Def l.prog w K mg base "is_tuple_of" 1 ["thing", "many"] (spTupleOf K) := ⟨_, _, PySem.W.mg_of X G a3, k3, b3, ok_is_tuple_of F3 B⟩
  have D4 : Def l.prog w K mg base "is_list_of" 1 ["thing", "fewest", "most"] (spListOf K) := ⟨_, _, PySem.W.mg_of X G a4, k4, b4, ok_is_list_of F4 B⟩
  have D5 : Def l.prog w K mg base "are_whole" 2 ["thing", "many"] (spAreW K) := ⟨_, _, PySem.W.mg_of X G a5, k5, b5, ok_are_whole F5 B D4 D1⟩
  have D6 : Def l.prog w K mg base "are_lights" 3 ["thing"] (spPred K lightsB) := ⟨_, _, PySem.W.mg_of X G a6, k6, b6, ok_are_lights F6 B M_MOST_DAYS D4 D2⟩
  have D7 : Def l.prog w K mg base "is_bound" 3 ["thing"] (spPred K boundB) := ⟨_, _, PySem.W.mg_of X G a7, k7, b7, ok_is_bound F7 D2⟩
  have D8 : Def l.prog w K mg base "is_life" 3 ["thing"] (spPred K lifeB) := ⟨_, _, PySem.W.mg_of X G a8, k8, b8, ok_is_life F8 M_LONGEST_LIFE D1⟩
  have D9 : Def l.prog w K mg base "is_day" 3 ["thing"] (spPred K dayB) := ⟨_, _, PySem.W.mg_of X G a9, k9, b9, ok_is_day F9 B D3 D2⟩
  have D10 : Def l.prog w K mg base "has_bakery_form" 4 ["thing"] (spPred K bakFormB) := ⟨_, _, PySem.W.mg_of X G a10, k10, b10, ok_has_bakery_form F10 D3 D6 D7 D4 M_MOST_GOODS⟩
  have D11 : Def l.prog w K mg base "has_good_form" 4 ["thing", "many"] (spGoodForm K) := ⟨_, _, PySem.W.mg_of X G a11, k11, b11, ok_has_good_form F11 D3 D8 D4⟩
  have D12 : Def l.prog w K mg base "look_at_goods" 5 ["goods", "many"] (spLookGoods K) := ⟨_, _, PySem.W.mg_of X G a12, k12, b12, ok_look_at_goods F12 B D11 D9⟩
  have D13 : Def l.prog w K mg base "look_at_bakery" 6 ["thing"] (spLook K) := ⟨_, _, PySem.W.mg_of X G a13, k13, b13, ok_look_at_bakery F13 B D10 D12⟩
  have D14 : Def l.prog w K mg base "is_place" 2 ["thing", "many"] (spPlaceA K) := ⟨_, _, PySem.W.mg_of X G a14, k14, b14, okA_is_place F14 D1⟩
  have D15 : Def l.prog w K mg base "look_at_days" 3 ["bakery", "thing"] (spLookD K) := ⟨_, _, PySem.W.mg_of X G a15, k15, b15, ok_look_at_days F15 B Bz (place_of D14)⟩
  have D16 : Def l.prog w K mg base "keeps_of" 1 ["days", "first", "behind"] (spKeeps K) := ⟨_, _, PySem.W.mg_of X G a16, k16, b16, ok_keeps_of F16 B⟩
  have D17 : Def l.prog w K mg base "fines_of" 1 ["days", "first", "behind"] (spFines K) := ⟨_, _, PySem.W.mg_of X G a17, k17, b17, ok_fines_of F17 B⟩
  have D18 : Def l.prog w K mg base "loaf_price" 2 ["good", "baked", "given"] (spLoafP K) := ⟨_, _, PySem.W.mg_of X G a18, k18, b18, ok_loaf_price F18 D17 D16⟩
  have D19 : Def l.prog w K mg base "good_reach" 1 ["good", "given"] (spGReach K) := ⟨_, _, PySem.W.mg_of X G a19, k19, b19, ok_good_reach F19 B⟩
  have D20 : Def l.prog w K mg base "reached_wants" 2 ["good"] (spRWants K) := ⟨_, _, PySem.W.mg_of X G a20, k20, b20, ok_reached_wants F20 B D19⟩
  have D21 : Def l.prog w K mg base "all_wants" 3 ["bakery"] (spAWants K) := ⟨_, _, PySem.W.mg_of X G a21, k21, b21, ok_all_wants F21 D20⟩
  have D22 : Def l.prog w K mg base "room_of_day" 1 ["bakery"] (spRoom K) := ⟨_, _, PySem.W.mg_of X G a22, k22, b22, ok_room_of_day F22 B⟩
  have D23 : Def l.prog w K mg base "rooms_beside" 2 ["bakery", "dark"] (spRooms K) := ⟨_, _, PySem.W.mg_of X G a23, k23, b23, ok_rooms_beside F23 B D22⟩
  have D24 : Def l.prog w K mg base "is_stretch" 3 ["bakery", "thing"] (spIsStA K) := ⟨_, _, PySem.W.mg_of X G a24, k24, b24, okA_is_stretch F24 B D3 D14⟩
  have D25 : Def l.prog w K mg base "wants_too_much" 7 ["bakery", "dark", "thing"] (spWtmA K) := ⟨_, _, PySem.W.mg_of X G a25, k25, b25, okA_wants_too_much F25 B D13 D15 D24 D21 D23⟩
  have D26 : Def l.prog w K mg base "are_loaf_prices" 7 ["bakery", "thing"] (spALP K) := ⟨_, _, PySem.W.mg_of X G a26, k26, b26, ok_are_loaf_prices F26 B D13 D4 D5⟩
  have D27 : Def l.prog w K mg base "offers_on" 3 ["bakery", "prices", "baked"] (spOffers K) := ⟨_, _, PySem.W.mg_of X G a27, k27, b27, ok_offers_on F27 B Bz D18⟩
  have D28 : Def l.prog w K mg base "gain_on" 4 ["bakery", "prices", "day"] (spGainOn K) := ⟨_, _, PySem.W.mg_of X G a28, k28, b28, ok_gain_on F28 B Bs D22 D27⟩
  have D29 : Def l.prog w K mg base "worth_of_wants" 1 ["bakery", "prices"] (spWorth K) := ⟨_, _, PySem.W.mg_of X G a29, k29, b29, ok_worth_of_wants F29 B Bz⟩
  have D30 : Def l.prog w K mg base "bottom" 7 ["bakery", "prices", "lit", "dark"] (spBottom K) := ⟨_, _, PySem.W.mg_of X G a30, k30, b30, ok_bottom F30 B D13 D29 D28⟩
  have D31 : Def l.prog w K mg base "is_node" 2 ["thing", "word", "many"] (spNode K) := ⟨_, _, PySem.W.mg_of X G a31, k31, b31, ok_is_node F31 B Bq D3⟩
  have D32 : Def l.prog w K mg base "is_free_day" 3 ["bakery", "lit", "dark", "thing"] (spFree K) := ⟨_, _, PySem.W.mg_of X G a32, k32, b32, ok_is_free_day F32 B D14⟩
  have D34 : Def l.prog w K mg base "lets_node" 48 ["bakery", "cost", "thing", "lit", "dark"] (spNodeL K 20) := ⟨_, _, PySem.W.mg_of X G a34, k34, b34, ok_lets_node F34 B Bs M_SPLIT M_STRETCH M_PRICES D31 D25 D26 D30 D32 (PySem.W.mg_of X G a34) k34 b34 F33 (PySem.W.mg_of X G a33) k33 b33⟩
  have D35 : Def l.prog w K mg base "lets_tree" 49 ["bakery", "cost", "thing"] (spTree K) := ⟨_, _, PySem.W.mg_of X G a35, k35, b35, ok_lets_tree F35 B D13 D34⟩
  have D36 : Def l.prog w K mg base "_law_cell_at" 1 ["_law_script", "_law_k"] (spCellAt K) := ⟨_, _, PySem.W.mg_of X G a36, k36, b36, ok_cell_at F36 B⟩
  have D37 : Def l.prog w K mg base "_law_numbers" 1 ["_law_cell", "_law_salt", "_law_sizes"] (spNumbers K) := ⟨_, _, PySem.W.mg_of X G a37, k37, b37, ok_numbers F37 B⟩
  have D38 : Def l.prog w K mg base "_law_day" 1 ["_law_digits", "_law_late"] (spDay K) := ⟨_, _, PySem.W.mg_of X G a38, k38, b38, ok_day F38 ⟩
  have D39 : Def l.prog w K mg base "_law_days" 2 ["_law_script", "_law_first", "_law_upto", "_law_salt", "_law_late"] (spDays K) := ⟨_, _, PySem.W.mg_of X G a39, k39, b39, ok_days F39 B D37 D36 D38⟩
  have D40 : Def l.prog w K mg base "_law_two" 3 ["_law_script", "_law_upto", "_law_salt"] (spTwo K) := ⟨_, _, PySem.W.mg_of X G a40, k40, b40, ok_two F40 D37 D36 D39⟩
  have D41 : Def l.prog w K mg base "_law_odd" 1 ["_law_digit"] (spOdd K) := ⟨_, _, PySem.W.mg_of X G a41, k41, b41, ok_odd F41 ⟩
  have D42 : Def l.prog w K mg base "_law_price" 1 ["_law_good", "_law_baked", "_law_given"] (spLPrice K) := ⟨_, _, PySem.W.mg_of X G a42, k42, b42, ok_price F42 B⟩
  have D43 : Def l.prog w K mg base "_law_gain" 2 ["_law_bakery", "_law_prices", "_law_day_here"] (spGainOn K) := ⟨_, _, PySem.W.mg_of X G a43, k43, b43, ok_gain_l54 F43 B Bs Bz D42⟩
  have D44 : Def l.prog w K mg base "_law_bottom" 3 ["_law_bakery", "_law_prices", "_law_lit", "_law_dark"] (spBottom K) := ⟨_, _, PySem.W.mg_of X G a44, k44, b44, ok_bottom_l54 F44 B Bz D43⟩
  have D45 : Def l.prog w K mg base "_law_beyond" 2 ["_law_bakery", "_law_dark", "_law_first", "_law_last"] (spBeyondL K) := ⟨_, _, PySem.W.mg_of X G a45, k45, b45, ok_beyond54 F45 B D42⟩
  have D46 : Def l.prog w K mg base "_law_whole" 1 ["_law_thing"] (spWhole K) := ⟨_, _, PySem.W.mg_of X G a46, k46, b46, ok_whole54 F46 B⟩
  have D47 : Def l.prog w K mg base "_law_are_loaf_prices" 2 ["_law_bakery", "_law_thing"] (spALP K) := ⟨_, _, PySem.W.mg_of X G a47, k47, b47, ok_alp54 F47 B D46⟩
  have D48 : Def l.prog w K mg base "_law_is_tree" 24 ["_law_bakery", "_law_cost", "_law_thing", "_law_lit", "_law_dark"] (spTreeL K 20) := ⟨_, _, PySem.W.mg_of X G a48, k48, b48, ok_is_tree54 F48 B Bq D47 D44 D46 D45 (PySem.W.mg_of X G a48) k48 b48⟩
  have D49 : Def l.prog w K mg base "_law_prices_drawn" 1 ["_law_bakery", "_law_digits"] (spPrDr K) := ⟨_, _, PySem.W.mg_of X G a49, k49, b49, ok_prices_drawn F49 B⟩
  have D50 : Def l.prog w K mg base "_law_tree_drawn" 6 ["_law_bakery", "_law_digits", "_law_deep"] (spTDr K 4) := ⟨_, _, PySem.W.mg_of X G a50, k50, b50, ok_tree_drawn F50 B D49 (PySem.W.mg_of X G a50) k50 b50⟩
  have D51 : Def l.prog w K mg base "_law_prices_bent" 2 ["_law_rows", "_law_digits"] (spPrB K) := ⟨_, _, PySem.W.mg_of X G a51, k51, b51, ok_prices_bent F51 B D41⟩
  have D52 : Def l.prog w K mg base "_law_bent" 7 ["_law_tree", "_law_digits"] (spBent K 4) := ⟨_, _, PySem.W.mg_of X G a52, k52, b52, ok_bent F52 B D41 D51 (PySem.W.mg_of X G a52) k52 b52⟩
  have D53 : Def l.prog w K mg base "_law_leaves" 8 ["_law_bakery", "_law_tree", "_law_lit", "_law_dark"] (spLvs K 4) := ⟨_, _, PySem.W.mg_of X G a53, k53, b53, ok_leaves F53 B D44 (PySem.W.mg_of X G a53) k53 b53⟩
  exact ok_law F54 B D40 D37 D50 D53 D52 D35 D48
end Bk
open PySem PySem.W PyProof.Rows
set_option maxHeartbeats 0 in
theorem PySem.Challenge.cw_bakeahead_k54_trees_looked_at_holds : PySem.Challenge.rw_bakeahead_k54_trees_looked_at.Holds := by
  w_on; o_law; k_head; (case hw => w_witness2)
  k_fill
  refine Bk.walk_M (l := PySem.Challenge.rw_bakeahead_k54_trees_looked_at) (n := 63) (k := 50) (x := "_law_script") (sp := fun w => Bk.spLaw _) rfl (by decide) rfl ⟨rfl, by decide, by decide⟩ (fun w h Y => PySem.W.kIn_of Y) ?imp ?hk1 ?F (fun _ _ a ns hl hS hM => ⟨a, ns, rfl, hS, hl, hM, fun _ => rfl⟩)
  case imp => first | rfl | decide +kernel
  case hk1 => (intro w; first | rfl | k_is | decide +kernel)
  case F =>
    intro w mg fa h KX G hmg
    refine' Bk.all_mk KX G hmg ?a1 ?l1 ?c1 ?k1 ?a2 ?l2 ?c2 ?k2 ?a3 ?l3 ?c3 ?k3 ?a4 ?l4 ?c4 ?k4 ?a5 ?l5 ?c5 ?k5 ?a6 ?l6 ?c6 ?k6 ?a7 ?l7 ?c7 ?k7 ?a8 ?l8 ?c8 ?k8 ?a9 ?l9 ?c9 ?k9 ?a10 ?l10 ?c10 ?k10 ?a11 ?l11 ?c11 ?k11 ?a12 ?l12 ?c12 ?k12 ?a13 ?l13 ?c13 ?k13 ?a14 ?l14 ?c14 ?k14 ?a15 ?l15 ?c15 ?k15 ?a16 ?l16 ?c16 ?k16 ?a17 ?l17 ?c17 ?k17 ?a18 ?l18 ?c18 ?k18 ?a19 ?l19 ?c19 ?k19 ?a20 ?l20 ?c20 ?k20 ?a21 ?l21 ?c21 ?k21 ?a22 ?l22 ?c22 ?k22 ?a23 ?l23 ?c23 ?k23 ?a24 ?l24 ?c24 ?k24 ?a25 ?l25 ?c25 ?k25 ?a26 ?l26 ?c26 ?k26 ?a27 ?l27 ?c27 ?k27 ?a28 ?l28 ?c28 ?k28 ?a29 ?l29 ?c29 ?k29 ?a30 ?l30 ?c30 ?k30 ?a31 ?l31 ?c31 ?k31 ?a32 ?l32 ?c32 ?k32 ?a33 ?l33 ?c33 ?k33 ?a34 ?l34 ?c34 ?k34 ?a35 ?l35 ?c35 ?k35 ?a36 ?l36 ?c36 ?k36 ?a37 ?l37 ?c37 ?k37 ?a38 ?l38 ?c38 ?k38 ?a39 ?l39 ?c39 ?k39 ?a40 ?l40 ?c40 ?k40 ?a41 ?l41 ?c41 ?k41 ?a42 ?l42 ?c42 ?k42 ?a43 ?l43 ?c43 ?k43 ?a44 ?l44 ?c44 ?k44 ?a45 ?l45 ?c45 ?k45 ?a46 ?l46 ?c46 ?k46 ?a47 ?l47 ?c47 ?k47 ?a48 ?l48 ?c48 ?k48 ?a49 ?l49 ?c49 ?k49 ?a50 ?l50 ?c50 ?k50 ?a51 ?l51 ?c51 ?k51 ?a52 ?l52 ?c52 ?k52 ?a53 ?l53 ?c53 ?k53 ?a54 ?l54 ?c54 ?k54 ?z_len ?z_max ?z_min ?z_range ?z_isinstance ?z_int ?z_bool ?z_list ?z_tuple ?z_all ?z_sum ?z_repr ?z_enumerate ?z_str ?z_sorted ?z_zip ?y_GREATEST ?y_MOST_DAYS ?y_MOST_GOODS ?y_LONGEST_LIFE ?y_SPLIT ?y_STRETCH ?y_PRICES
    (case a1 => k_is)
    (case l1 => k_is)
    (case c1 => k_is)
    (case k1 => k_is)
    (case a2 => k_is)
    (case l2 => k_is)
    (case c2 => k_is)
    (case k2 => k_is)
    (case a3 => k_is)
    (case l3 => k_is)
    (case c3 => k_is)
    (case k3 => k_is)
    (case a4 => k_is)
    (case l4 => k_is)
    (case c4 => k_is)
    (case k4 => k_is)
    (case a5 => k_is)
    (case l5 => k_is)
    (case c5 => k_is)
    (case k5 => k_is)
    (case a6 => k_is)
    (case l6 => k_is)
    (case c6 => k_is)
    (case k6 => k_is)
    (case a7 => k_is)
    (case l7 => k_is)
    (case c7 => k_is)
    (case k7 => k_is)
    (case a8 => k_is)
    (case l8 => k_is)
    (case c8 => k_is)
    (case k8 => k_is)
    (case a9 => k_is)
    (case l9 => k_is)
    (case c9 => k_is)
    (case k9 => k_is)
    (case a10 => k_is)
    (case l10 => k_is)
    (case c10 => k_is)
    (case k10 => k_is)
    (case a11 => k_is)
    (case l11 => k_is)
    (case c11 => k_is)
    (case k11 => k_is)
    (case a12 => k_is)
    (case l12 => k_is)
    (case c12 => k_is)
    (case k12 => k_is)
    (case a13 => k_is)
    (case l13 => k_is)
    (case c13 => k_is)
    (case k13 => k_is)
    (case a14 => k_is)
    (case l14 => k_is)
    (case c14 => k_is)
    (case k14 => k_is)
    (case a15 => k_is)
    (case l15 => k_is)
    (case c15 => k_is)
    (case k15 => k_is)
    (case a16 => k_is)
    (case l16 => k_is)
    (case c16 => k_is)
    (case k16 => k_is)
    (case a17 => k_is)
    (case l17 => k_is)
    (case c17 => k_is)
    (case k17 => k_is)
    (case a18 => k_is)
    (case l18 => k_is)
    (case c18 => k_is)
    (case k18 => k_is)
    (case a19 => k_is)
    (case l19 => k_is)
    (case c19 => k_is)
    (case k19 => k_is)
    (case a20 => k_is)
    (case l20 => k_is)
    (case c20 => k_is)
    (case k20 => k_is)
    (case a21 => k_is)
    (case l21 => k_is)
    (case c21 => k_is)
    (case k21 => k_is)
    (case a22 => k_is)
    (case l22 => k_is)
    (case c22 => k_is)
    (case k22 => k_is)
    (case a23 => k_is)
    (case l23 => k_is)
    (case c23 => k_is)
    (case k23 => k_is)
    (case a24 => k_is)
    (case l24 => k_is)
    (case c24 => k_is)
    (case k24 => k_is)
    (case a25 => k_is)
    (case l25 => k_is)
    (case c25 => k_is)
    (case k25 => k_is)
    (case a26 => k_is)
    (case l26 => k_is)
    (case c26 => k_is)
    (case k26 => k_is)
    (case a27 => k_is)
    (case l27 => k_is)
    (case c27 => k_is)
    (case k27 => k_is)
    (case a28 => k_is)
    (case l28 => k_is)
    (case c28 => k_is)
    (case k28 => k_is)
    (case a29 => k_is)
    (case l29 => k_is)
    (case c29 => k_is)
    (case k29 => k_is)
    (case a30 => k_is)
    (case l30 => k_is)
    (case c30 => k_is)
    (case k30 => k_is)
    (case a31 => k_is)
    (case l31 => k_is)
    (case c31 => k_is)
    (case k31 => k_is)
    (case a32 => k_is)
    (case l32 => k_is)
    (case c32 => k_is)
    (case k32 => k_is)
    (case a33 => k_is)
    (case l33 => k_is)
    (case c33 => k_is)
    (case k33 => k_is)
    (case a34 => k_is)
    (case l34 => k_is)
    (case c34 => k_is)
    (case k34 => k_is)
    (case a35 => k_is)
    (case l35 => k_is)
    (case c35 => k_is)
    (case k35 => k_is)
    (case a36 => k_is)
    (case l36 => k_is)
    (case c36 => k_is)
    (case k36 => k_is)
    (case a37 => k_is)
    (case l37 => k_is)
    (case c37 => k_is)
    (case k37 => k_is)
    (case a38 => k_is)
    (case l38 => k_is)
    (case c38 => k_is)
    (case k38 => k_is)
    (case a39 => k_is)
    (case l39 => k_is)
    (case c39 => k_is)
    (case k39 => k_is)
    (case a40 => k_is)
    (case l40 => k_is)
    (case c40 => k_is)
    (case k40 => k_is)
    (case a41 => k_is)
    (case l41 => k_is)
    (case c41 => k_is)
    (case k41 => k_is)
    (case a42 => k_is)
    (case l42 => k_is)
    (case c42 => k_is)
    (case k42 => k_is)
    (case a43 => k_is)
    (case l43 => k_is)
    (case c43 => k_is)
    (case k43 => k_is)
    (case a44 => k_is)
    (case l44 => k_is)
    (case c44 => k_is)
    (case k44 => k_is)
    (case a45 => k_is)
    (case l45 => k_is)
    (case c45 => k_is)
    (case k45 => k_is)
    (case a46 => k_is)
    (case l46 => k_is)
    (case c46 => k_is)
    (case k46 => k_is)
    (case a47 => k_is)
    (case l47 => k_is)
    (case c47 => k_is)
    (case k47 => k_is)
    (case a48 => k_is)
    (case l48 => k_is)
    (case c48 => k_is)
    (case k48 => k_is)
    (case a49 => k_is)
    (case l49 => k_is)
    (case c49 => k_is)
    (case k49 => k_is)
    (case a50 => k_is)
    (case l50 => k_is)
    (case c50 => k_is)
    (case k50 => k_is)
    (case a51 => k_is)
    (case l51 => k_is)
    (case c51 => k_is)
    (case k51 => k_is)
    (case a52 => k_is)
    (case l52 => k_is)
    (case c52 => k_is)
    (case k52 => k_is)
    (case a53 => k_is)
    (case l53 => k_is)
    (case c53 => k_is)
    (case k53 => k_is)
    (case a54 => k_is)
    (case l54 => k_is)
    (case c54 => k_is)
    (case k54 => k_is)
    (case z_len => k_is)
    (case z_max => k_is)
    (case z_min => k_is)
    (case z_range => k_is)
    (case z_isinstance => k_is)
    (case z_int => k_is)
    (case z_bool => k_is)
    (case z_list => k_is)
    (case z_tuple => k_is)
    (case z_all => k_is)
    (case z_sum => k_is)
    (case z_repr => k_is)
    (case z_enumerate => k_is)
    (case z_str => k_is)
    (case z_sorted => k_is)
    (case z_zip => k_is)
    (case y_GREATEST => k_is)
    (case y_MOST_DAYS => k_is)
    (case y_MOST_GOODS => k_is)
    (case y_LONGEST_LIFE => k_is)
    (case y_SPLIT => k_is)
    (case y_STRETCH => k_is)
    (case y_PRICES => k_is)



