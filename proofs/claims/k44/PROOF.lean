import PyProof.Rows.All
import Wide.All
import OpenK.AllK
import Wide.FinOn
import HandS.ForMost
import HandS.IsInst
import HandS.Wide
import HandS.Evl
import HandS.Rev
import HandS.Walk
import HandS.NoneIn
import HandS.Style
import HandS.Defaults
import KE.GoesMore
import KE.KDictKeyed
import KE.KDictCopyH
import KE.KDictWalk
import KE.GoesEnumKw
import HandS.SortKw
import KE.DataMinMax
import KE.KDictPairs
import HandS.Conv
import HandS.TupMul
import HandS.TupAny
import HandS.CallLocal
import HandS.ExcInit
import HandS.ExcField
import HandS.TryMany
import HandS.WordsExc
import HandS.SetKeys
import HandS.SortInts
import HandS.AnyAll
import HandS.Text
import HandS.Deep
import PyProof.CallFns
import HandS.More
import HandS.HeadHook1
import HandS.HeadHook2
import HandS.SetFor
import HandS.Zip
import HandS.SortRule
import HandS.DictComp
import KE.KDictZip
import PyProof.TupleOfGen
import HandS.SortOrd
import PyProof.Rows.SortKeyStr
import HandS.TupLe
import PyProof.CallStr
import HandS.RaiseMore
import PyProof.SetRoads
import PyProof.Rows.SetFrom
import HandS.Strs
import PySem.Challenge.RW_tosslanes_k44_whole_scored_rows
import HandS.Head0
import HandS.Head1
import HandS.Head2
import HandS.HeadEnd
section
set_option Elab.async false
set_option linter.all false
set_option maxRecDepth 100000
set_option maxHeartbeats 1000000
/-! Data with dicts, its tuples known to be plain: what TB1 and all behind it rest on, in the place of the library's data. -/
namespace L2
open PySem PySem.Spec PyProof.Rows Evl
/-- a dict's object, as it stands -/
def DicO (a : Addr) (es : Array DictEntry) (ep : Nat) : HO := .ext fun h => h.DictRaw a es ep
def leafK : V → Option NestedKey
  | .non => some .none
  | .int i => some (.num i)
  | .str x => some (.text x)
  | _ => none
def leafKs : List V → Option (List NestedKey)
  | [] => some []
  | v :: vs => match leafK v, leafKs vs with
    | some k, some ks => some (k :: ks)
    | _, _ => none
def leafD : PyData → Option NestedKey
  | .none => some .none
  | .int i => some (.num i)
  | .str x => some (.text x)
  | _ => none
def leafDs : List PyData → Option (List NestedKey)
  | [] => some []
  | v :: vs => match leafD v, leafDs vs with
    | some k, some ks => some (k :: ks)
    | _, _ => none
/-- the key that a datum is -/
def keyD : PyData → Option NestedKey
  | .tuple ds => (leafDs ds).map .tup
  | d => leafD d
def nkey : Key → NestedKey
  | .inl i => .num i
  | .inr x => .text x
/-- the tuple at b is the key k -/
def KeyT (K : PySem.W.Frag) (H : Hp) (b : Addr) (k : NestedKey) : Prop := ∃ vs ks, SqT K H b vs ∧ leafKs vs = some ks ∧ k = .tup ks
/-- the value is the key k -/
def KeyV (K : PySem.W.Frag) (H : Hp) (v : V) (k : NestedKey) : Prop := leafK v = some k ∨ ∃ b, v = .ref b ∧ KeyT K H b k
/-- the entries of a dict whose keys are flat tuples (ints and None: what hashes alike in every world) -/
def TupEs (K : PySem.W.Frag) (H : Hp) (es : Array DictEntry) (kvs : List (NestedKey × V)) : Prop := ∃ ys : List (NestedKey × Addr × Value), (∀ (P : Program) (w : World), es.toList = ys.map (entryOfKey (nestedKind P w))) ∧ (ys.map (·.1)).Nodup ∧
  Paired (fun (y : NestedKey × Addr × Value) (x : NestedKey × V) => x.1 = y.1 ∧ KeyT K H y.2.1 y.1 ∧ RelV x.2 y.2.2) ys kvs
/-- the dict at a has these keys and values -/
def DicAt (K : PySem.W.Frag) (H : Hp) (a : Addr) (kvs : List (NestedKey × V)) : Prop :=
  ((a == sysModules) = false ∧ ∃ es ep, H a = some (DicO a es ep) ∧ es.size ≤ sizeLine ∧ TupEs K H es kvs) ∨ ∃ ks : List (Key × V), ks ≠ [] ∧ Rd H a (.dK ks) ∧ kvs = ks.map fun kv => (nkey kv.1, kv.2)
def pairI : PyData → Bool
  | .tuple [.int _, .int _] => true
  | _ => false
/-- a row of pairs of ints (of a tuple of such it is known that it has no dict) -/
def towerish (ds : List PyData) : Bool := ds.all pairI
def PlT (H : Hp) (a : Addr) (xs : List V) : Prop := ∃ o, H a = some (.frz o (.tup xs)) ∧ o.cls = .type "tuple" ∧ o.dict = none
theorem PlT.mono {H H' : Hp} {a : Addr} {xs : List V} (e : Ex H H') (h : PlT H a xs) : PlT H' a xs := by
  obtain ⟨o, h1, h2⟩ := h
  exact ⟨o, e _ _ h1, h2⟩
mutual
inductive Dq (K : PySem.W.Frag) (H : Hp) : V → PyData → Prop
  | non : Dq K H .non .none
  | bl (b : Bool) : Dq K H (.bl b) (.bool b)
  | int (i : Int) : Dq K H (.int i) (.int i)
  | str (x : Str) : Dq K H (.str x) (.str x)
  | lst {a : Addr} {xs : List V} {ds : List PyData} : SqL K H a xs → DqAll K H xs ds → Dq K H (.ref a) (.list ds)
  | tup {a : Addr} {xs : List V} {ds : List PyData} : SqT K H a xs → DqAll K H xs ds → (towerish ds = true → PlT H a xs) → Dq K H (.ref a) (.tuple ds)
  | dic {a : Addr} {kvs : List (NestedKey × V)} {ds : List (PyData × PyData)} : DicAt K H a kvs → (ds.map fun d => keyD d.1) = (kvs.map fun x => some x.1) → DqAll K H (kvs.map (·.2)) (ds.map (·.2)) → Dq K H (.ref a) (.dict ds)
inductive DqAll (K : PySem.W.Frag) (H : Hp) : List V → List PyData → Prop
  | nil : DqAll K H [] []
  | cons {v : V} {vs : List V} {d : PyData} {ds : List PyData} : Dq K H v d → DqAll K H vs ds → DqAll K H (v :: vs) (d :: ds)
end
theorem Dq.tupN {K : PySem.W.Frag} {H : Hp} {a : Addr} {xs : List V} {ds : List PyData} (s : SqT K H a xs) (d : DqAll K H xs ds) (h : towerish ds = false) : Dq K H (.ref a) (.tuple ds) := .tup s d fun z => by
  rw [h] at z
  cases z
theorem Dq.tupZ {K : PySem.W.Frag} {H : Hp} {a : Addr} {o : Obj} {xs : List V} {ds : List PyData} (hc : o.cls = .type "tuple") (hd : o.dict = none) (s : H a = some (.frz o (.tup xs))) (d : DqAll K H xs ds) : Dq K H (.ref a) (.tuple ds) := .tup (.inl (.inr ⟨o, s⟩)) d fun _ => ⟨o, s, hc, hd⟩
/-- no dict in it -/
def noDic : PyData → Bool := fun d => d.canLay0
section
variable {K : PySem.W.Frag} {H : Hp}
mutual
theorem Dq.toP : ∀ {v : V} {d : PyData}, d.canLay0 = true → Dq K H v d → Dp K H v d
  | _, _, _, .non => .non
  | _, _, _, .bl b => .bl b
  | _, _, _, .int i => .int i
  | _, _, _, .str x => .str x
  | _, _, h, .lst s a => .lst s (DqAll.toP (by simpa [PyData.canLay0] using h) a)
  | _, _, h, .tup s a _ => .tup s (DqAll.toP (by simpa [PyData.canLay0] using h) a)
  | _, _, h, .dic _ _ _ => absurd h (by simp [PyData.canLay0])
theorem DqAll.toP : ∀ {vs : List V} {ds : List PyData}, PyData.canLayAll0 ds = true → DqAll K H vs ds → DpAll K H vs ds
  | _, _, _, .nil => .nil
  | _, _, h, .cons a b => by
    simp only [PyData.canLayAll0, Bool.and_eq_true] at h
    exact .cons (Dq.toP h.1 a) (DqAll.toP h.2 b)
end
theorem DpAll.of_ints : ∀ ns : List Int, DpAll K H (ns.map V.int) (ns.map .int)
  | [] => .nil
  | n :: ns => .cons (.int n) (DpAll.of_ints ns)
end
theorem KeyT.mono {K : PySem.W.Frag} {H H' : Hp} {b : Addr} {k : NestedKey} (e : Ex H H') : KeyT K H b k → KeyT K H' b k := fun ⟨vs, ks, h, r⟩ => ⟨vs, ks, ex_t e h, r⟩
theorem KeyV.mono {K : PySem.W.Frag} {H H' : Hp} {v : V} {k : NestedKey} (e : Ex H H') : KeyV K H v k → KeyV K H' v k := Or.imp id fun ⟨b, h, r⟩ => ⟨b, h, r.mono e⟩
theorem TupEs.mono {K : PySem.W.Frag} {H H' : Hp} {es : Array DictEntry} {xs : List (NestedKey × V)} (e : Ex H H') (h : TupEs K H es xs) : TupEs K H' es xs := by
  obtain ⟨ys, h1, h2, h3⟩ := h
  exact ⟨ys, h1, h2, Paired.mapP h3 fun y x ⟨a, b, f⟩ => ⟨a, b.mono e, f⟩⟩
theorem DicAt.mono {K : PySem.W.Frag} {H H' : Hp} {a : Addr} {xs : List (NestedKey × V)} (e : Ex H H') (h : DicAt K H a xs) : DicAt K H' a xs := by
  rcases h with ⟨h0, es, ep, h1, h2, h3⟩ | ⟨ks, h0, h1, h2⟩
  · exact .inl ⟨h0, es, ep, e _ _ h1, h2, h3.mono e⟩
  · exact .inr ⟨ks, h0, h1.imp (e _ _) fun ⟨o, z⟩ => ⟨o, e _ _ z⟩, h2⟩
end L2
end

section
set_option Elab.async false
set_option linter.all false
set_option maxRecDepth 100000
set_option maxHeartbeats 4000000
/-! Toss base 1: a def by its name (Has), data (Dq) carried along, what an expression gives as data (EvD), rows that are lists or tuples. -/
namespace Tb
open PySem PySem.Spec PyProof.Rows L2 Evl

/-! ### a def of the module, by its name -/
/-- CX lets nothing out that is wanted of nobody -/
def NoX (CX : CXT) : Prop := ∀ X : Cx, Passes CX X.nox E0
theorem noX0 : NoX CX0 := fun _ => pass0
structure Has (P : Program) (w : World) (K : PySem.W.Frag) (mg : Str → Option Value) (base : Heap) (CX : CXT) (x : Str) (k : Nat) (ps : List Str) (dvs : List V) (sp : Sp) : Prop where
  ex : ∃ (f : Addr) (fd : FuncData) (ds : List Value), FnOk P w K mg base CX k f fd ps sp ∧ mg x = some (.ref f) ∧ PySem.W.keepIn K (.ref f) = true ∧ Vals dvs ds ∧ Binds K fd ps ds
theorem pe_has {X : Cx} {CX : CXT} {x : Str} {p pos : Pos} {e : Expr} {es : List Expr} {k : Nat} {ps : List Str} {dvs : List V} {sp : Sp} {t : TA} {E : XK} (F : Has X.prog X.w X.K X.mg X.base CX x k ps dvs sp) (hr : Room k X.A) (hg : Gl X x)
    (ha : PA X (e :: es) t) (hx : Passes CX X E)
    (hd : (x == ("__debug__" : Str)) = false := by decide)
    (he : starEach (e :: es) X.env = (false, eval e X.env) :: starEach es X.env := by rfl) (hpl : (backTo pos (starEach es X.env)).any (·.1) = false := by rfl) : PE X (.Call (.Name x p) (e :: es) [] pos) (tCall sp dvs E t) := by
  obtain ⟨f, fd, ds, F, hm, hk, hv, hb⟩ := F.ex
  exact pe_call F hr hg hm hk hb hv hx ha hd he hpl
/-- a def behind the top, its name, its level -/
theorem has_of {P : Program} {w : World} {K : PySem.W.Frag} {mg : Str → Option Value} {base : Heap} {CX : CXT} {x qual : Str} {st : Stmt} {f : Addr} {fd : FuncData} {k : Nat} {ps : List Str} {sp : Sp}
    (F : FunD K x qual (defArgs st) (defBody st) (defScope st) [] [] f fd) (hm : mg x = some (.ref f)) (ok : FnOk P w K mg base CX k f fd ps sp)
    (h : ∀ (kV doc pm : Value) (an : Option Addr) (cdv ct : Value) (us : List Value), us.length = ps.length → bindArgs (PySem.W.fnOf x qual (defArgs st) (defBody st) (defScope st) .none kV doc pm an cdv ct) ⟨us, []⟩ = pure (ps.zip us)) :
    Has P w K mg base CX x k ps [] sp := by
  refine ⟨f, fd, [], ok, hm, F.kp, .nil, ?_⟩
  obtain ⟨oc, od, dV, kV, doc, pm, an, cdv, ct, osl, rfl, lk, hcd, hD, hK⟩ := F.ex
  rcases hD with ⟨_, rfl⟩ | ⟨e, _⟩
  · exact .all (h kV doc pm an cdv ct)
  · exact absurd rfl e

end Tb
namespace L2
open PySem PySem.Spec PyProof.Rows Evl
/-! ### data -/
section
variable {K : PySem.W.Frag} {H H' : Hp} {v : V} {vs : List V} {d : PyData} {ds : List PyData}
mutual
theorem dp_mono (e : Ex H H') : ∀ {v : V} {d : PyData}, Dq K H v d → Dq K H' v d
  | _, _, .non => .non
  | _, _, .bl b => .bl b
  | _, _, .int i => .int i
  | _, _, .str x => .str x
  | _, _, .lst h a => .lst (ex_l e h) (dpa_mono e a)
  | _, _, .tup h a p => .tup (ex_t e h) (dpa_mono e a) fun z => (p z).mono e
  | _, _, .dic h a b => .dic (h.mono e) a (dpa_mono e b)
theorem dpa_mono (e : Ex H H') : ∀ {vs : List V} {ds : List PyData}, DqAll K H vs ds → DqAll K H' vs ds
  | _, _, .nil => .nil
  | _, _, .cons h a => .cons (dp_mono e h) (dpa_mono e a)
end
theorem Dq.int_of {i : Int} (h : Dq K H v (.int i)) : v = .int i := by cases h; rfl
theorem Dq.bl_of {b : Bool} (h : Dq K H v (.bool b)) : v = .bl b := by cases h; rfl
theorem Dq.non_of (h : Dq K H v .none) : v = .non := by cases h; rfl
theorem Dq.str_of {x : Str} (h : Dq K H v (.str x)) : v = .str x := by cases h; rfl
theorem Dq.tup_of (h : Dq K H v (.tuple ds)) : ∃ a xs, v = .ref a ∧ SqT K H a xs ∧ DqAll K H xs ds := by
  cases h with
  | tup h a _ => exact ⟨_, _, rfl, h, a⟩
theorem Dq.tup_ofP (h : Dq K H v (.tuple ds)) : ∃ a xs, v = .ref a ∧ SqT K H a xs ∧ DqAll K H xs ds ∧ (towerish ds = true → PlT H a xs) := by
  cases h with
  | tup h a p => exact ⟨_, _, rfl, h, a, p⟩
theorem Dq.lst_of (h : Dq K H v (.list ds)) : ∃ a xs, v = .ref a ∧ SqL K H a xs ∧ DqAll K H xs ds := by
  cases h with
  | lst h a => exact ⟨_, _, rfl, h, a⟩
theorem DqAll.length : ∀ {vs : List V} {ds : List PyData}, DqAll K H vs ds → vs.length = ds.length
  | _, _, .nil => rfl
  | _, _, .cons _ a => by rw [List.length_cons, List.length_cons, DqAll.length a]
theorem DqAll.get : ∀ {vs : List V} {ds : List PyData} {i : Nat} {v : V}, DqAll K H vs ds → vs[i]? = some v → ∃ d, ds[i]? = some d ∧ Dq K H v d
  | _, _, i, v, .nil, h => by simp at h
  | _, _, 0, v, .cons r _, h => by simp at h; subst h; exact ⟨_, rfl, r⟩
  | _, _, i + 1, v, .cons _ a, h => by
    obtain ⟨d, h1, h2⟩ := DqAll.get (i := i) (v := v) a (by simpa using h)
    exact ⟨d, by simpa using h1, h2⟩
theorem DqAll.get' : ∀ {vs : List V} {ds : List PyData} {i : Nat} {d : PyData}, DqAll K H vs ds → ds[i]? = some d → ∃ v, vs[i]? = some v ∧ Dq K H v d
  | _, _, i, d, .nil, h => by simp at h
  | _, _, 0, d, .cons r _, h => by simp at h; subst h; exact ⟨_, rfl, r⟩
  | _, _, i + 1, d, .cons _ a, h => by
    obtain ⟨v, h1, h2⟩ := DqAll.get' (i := i) (d := d) a (by simpa using h)
    exact ⟨v, by simpa using h1, h2⟩
theorem DqAll.append : ∀ {vs ws : List V} {ds es : List PyData}, DqAll K H vs ds → DqAll K H ws es → DqAll K H (vs ++ ws) (ds ++ es)
  | _, _, _, _, .nil, b => b
  | _, _, _, _, .cons r a, b => .cons r (DqAll.append a b)
theorem DqAll.one (h : Dq K H v d) : DqAll K H [v] [d] := .cons h .nil
theorem DqAll.take : ∀ {vs : List V} {ds : List PyData} (n : Nat), DqAll K H vs ds → DqAll K H (vs.take n) (ds.take n)
  | _, _, 0, _ => .nil
  | _, _, _ + 1, .nil => .nil
  | _, _, n + 1, .cons r a => .cons r (DqAll.take n a)
theorem DqAll.drop : ∀ {vs : List V} {ds : List PyData} (n : Nat), DqAll K H vs ds → DqAll K H (vs.drop n) (ds.drop n)
  | _, _, 0, r => r
  | _, _, _ + 1, .nil => .nil
  | _, _, n + 1, .cons _ a => DqAll.drop n a
theorem DqAll.ints : ∀ {vs : List V} {ns : List Int}, DqAll K H vs (ns.map .int) → vs = ns.map V.int
  | _, [], .nil => rfl
  | _, n :: ns, .cons r a => by
    rw [Dq.int_of r, DqAll.ints a]
    rfl
theorem DqAll.of_ints : ∀ ns : List Int, DqAll K H (ns.map V.int) (ns.map .int)
  | [] => .nil
  | n :: ns => .cons (.int n) (DqAll.of_ints ns)

end
end L2
namespace Tb
open PySem PySem.Spec PyProof.Rows L2 Evl
section
variable {K : PySem.W.Frag} {H H' : Hp} {v : V} {vs : List V} {d : PyData} {ds : List PyData}
/-- a row: a list or a tuple -/
def rows (b : Bool) (ds : List PyData) : PyData := if b then .list ds else .tuple ds
def Row (K : PySem.W.Frag) (H : Hp) (a : Addr) (xs : List V) : Prop := SqL K H a xs ∨ SqT K H a xs
theorem row_mono (e : Ex H H') {a : Addr} {xs : List V} (h : Row K H a xs) : Row K H' a xs := h.elim (fun h => .inl (ex_l e h)) fun h => .inr (ex_t e h)
theorem row_of {b : Bool} (h : Dq K H v (rows b ds)) : ∃ a xs, v = .ref a ∧ Row K H a xs ∧ DqAll K H xs ds := by
  cases b with
  | true =>
    obtain ⟨a, xs, e, h, q⟩ := Dq.lst_of (show Dq K H v (.list ds) from h)
    exact ⟨a, xs, e, .inl h, q⟩
  | false =>
    obtain ⟨a, xs, e, h, q⟩ := Dq.tup_of (show Dq K H v (.tuple ds) from h)
    exact ⟨a, xs, e, .inr h, q⟩
end
end Tb
end

section
set_option Elab.async false
set_option linter.all false
set_option maxRecDepth 100000
set_option maxHeartbeats 4000000
/-! Toss base 2: what an expression gives as data. -/
namespace Tb
open PySem PySem.Spec PyProof.Rows L2 Evl

/-! ### growth: H is what is known for good, H1 the whole heap; behind a step G is known for good, H2 the whole heap; what stood in H1 and was not known for good is not in G -/
structure Gr (H H1 G H2 : Hp) : Prop where
  hg : Ex H G
  g2 : Ex G H2
  h12 : Ex H1 H2
  sep : ∀ b, H b = none → H1 b ≠ none → G b = none
theorem Gr.refl {H H1 : Hp} (e : Ex H H1) : Gr H H1 H H1 := ⟨Ex.refl H, e, Ex.refl H1, fun _ h _ => h⟩
theorem Gr.ex {H H1 H2 : Hp} (e : Ex H H1) (e2 : Ex H1 H2) : Gr H H1 H H2 := ⟨Ex.refl H, e.trans e2, e2, fun _ h _ => h⟩
theorem Gr.trans {H H1 G H2 G' H3 : Hp} (a : Gr H H1 G H2) (b : Gr G H2 G' H3) : Gr H H1 G' H3 :=
  ⟨a.hg.trans b.hg, b.g2, a.h12.trans b.h12, fun x h1 h2 => b.sep x (a.sep x h1 h2) fun z => by
    cases q : H1 x with
    | none => exact h2 q
    | some o =>
      rw [a.h12 x o q] at z
      cases z⟩
theorem Gr.new {H H1 : Hp} {p : Addr} {o : HO} (e : Ex H H1) (hp : H1 p = none) : Gr H H1 (upd H p o) (upd H1 p o) := by
  have hp0 := fresh_back e hp
  refine ⟨Ex.new hp0, fun b u q => ?_, Ex.new hp, fun b h1 h2 => ?_⟩
  · by_cases c : b = p
    · subst c
      rw [upd_same] at q ⊢
      exact q
    · rw [upd_ne c] at q ⊢
      exact e b u q
  · by_cases c : b = p
    · subst c
      exact absurd hp h2
    · rw [upd_ne c]
      exact h1
/-- a new object that may change later: it is not known for good -/
theorem Gr.mut {H H1 : Hp} {p : Addr} {o : HO} (e : Ex H H1) (hp : H1 p = none) : Gr H H1 H (upd H1 p o) := .ex e (Ex.new hp)
/-- both of two heaps that stand in a third -/
def both (A B : Hp) : Hp := fun b => match A b with
  | some o => some o
  | none => B b
theorem both_l (A B : Hp) : Ex A (both A B) := fun b o h => by
  unfold both
  rw [h]
theorem both_r {A B C : Hp} (a : Ex A C) (b : Ex B C) : Ex B (both A B) := fun x o h => by
  unfold both
  cases q : A x with
  | none => exact h
  | some u =>
    have z1 := a x u q
    rw [b x o h] at z1
    exact z1.symm
theorem both_in {A B C : Hp} (a : Ex A C) (b : Ex B C) : Ex (both A B) C := fun x o h => by
  unfold both at h
  cases q : A x with
  | none =>
    rw [q] at h
    exact b x o h
  | some u =>
    rw [q] at h
    cases h
    exact a x _ q
theorem Gr.mono {H H' H1 G H2 : Hp} (x : Ex H H') (y : Ex H' H1) (g : Gr H H1 G H2) : Gr H' H1 (both H' G) H2 ∧ Ex G (both H' G) := by
  have y2 := y.trans g.h12
  refine ⟨⟨both_l H' G, both_in y2 g.g2, g.h12, fun b h1 h2 => ?_⟩, both_r y2 g.g2⟩
  unfold both
  rw [h1]
  refine g.sep b ?_ h2
  cases q : H b with
  | none => rfl
  | some o =>
    rw [x b o q] at h1
    cases h1

def EvD (K : PySem.W.Frag) (te : TE) (σ : L2.St) (H : Hp) (d : PyData) : Prop := ∀ H1, Ex H H1 → ∀ Q : VK, (∀ v G H2, Gr H H1 G H2 → Dq K G v d → Q v H2) → te σ H1 Q
def EvDA (K : PySem.W.Frag) (ta : TA) (σ : L2.St) (H : Hp) (ds : List PyData) : Prop := ∀ H1, Ex H H1 → ∀ Q : List V → Hp → Prop, (∀ vs G H2, Gr H H1 G H2 → DqAll K G vs ds → Q vs H2) → ta σ H1 Q
/-- a new list: G is what stands without it -/
def EvDL (K : PySem.W.Frag) (te : TE) (σ : L2.St) (H : Hp) (es : List PyData) : Prop := ∀ H1, Ex H H1 → ∀ Q : VK,
  (∀ p xs G H2, G p = none → H1 p = none → Gr H H1 G H2 → H2 p = some (.lst xs) → DqAll K G xs es → Q (.ref p) H2) → te σ H1 Q
def RD (K : PySem.W.Frag) (r : R2) (d e : PyData) (H : Hp) (z : PyData) : Prop := ∀ x y H1, Ex H H1 → Dq K H x d → Dq K H y e → ∀ Q : VK, (∀ v G H2, Gr H H1 G H2 → Dq K G v z → Q v H2) → r x y H1 Q
def RUD (K : PySem.W.Frag) (r : V → Hp → VK → Prop) (d : PyData) (H : Hp) (z : PyData) : Prop := ∀ x H1, Ex H H1 → Dq K H x d → ∀ Q : VK, (∀ v G H2, Gr H H1 G H2 → Dq K G v z → Q v H2) → r x H1 Q
def RCD (K : PySem.W.Frag) (r : List V → Hp → VK → Prop) (ds : List PyData) (H : Hp) (z : PyData) : Prop := ∀ vs H1, Ex H H1 → DqAll K H vs ds → ∀ Q : VK, (∀ v G H2, Gr H H1 G H2 → Dq K G v z → Q v H2) → r vs H1 Q
def RCDL (K : PySem.W.Frag) (r : List V → Hp → VK → Prop) (ds : List PyData) (H : Hp) (es : List PyData) : Prop := ∀ vs H1, Ex H H1 → DqAll K H vs ds → ∀ Q : VK,
  (∀ p xs G H2, G p = none → H1 p = none → Gr H H1 G H2 → H2 p = some (.lst xs) → DqAll K G xs es → Q (.ref p) H2) → r vs H1 Q
def SpD (K : PySem.W.Frag) (sp : Sp) (dvs : List V) (ds : List PyData) (z : PyData) : Prop := ∀ vs H H1, Ex H H1 → DqAll K H vs ds → ∀ (Q : VK) (E : XK), (∀ v G H2, Gr H H1 G H2 → Dq K G v z → Q v H2) → sp (vs ++ dvs) H1 Q E
def SpDL (K : PySem.W.Frag) (sp : Sp) (dvs : List V) (ds : List PyData) (es : List PyData) : Prop := ∀ vs H H1, Ex H H1 → DqAll K H vs ds → ∀ (Q : VK) (E : XK),
  (∀ p xs G H2, G p = none → H1 p = none → Gr H H1 G H2 → H2 p = some (.lst xs) → DqAll K G xs es → Q (.ref p) H2) → sp (vs ++ dvs) H1 Q E

/-! ### promises of defs that only read -/
def spP (K : PySem.W.Frag) (n : Nat) (R : List PyData → PyData → Prop) : Sp := fun vs H Q _ => ∃ B ds d, Ex B H ∧ ds.length = n ∧ DqAll K B vs ds ∧ R ds d ∧ ∀ v G H2, Gr B H G H2 → Dq K G v d → Q v H2
def spPL (K : PySem.W.Frag) (n : Nat) (R : List PyData → List PyData → Prop) : Sp := fun vs H Q _ => ∃ B ds es, Ex B H ∧ ds.length = n ∧ DqAll K B vs ds ∧ R ds es ∧
  ∀ p xs G H2, G p = none → H p = none → Gr B H G H2 → H2 p = some (.lst xs) → DqAll K G xs es → Q (.ref p) H2
theorem spP_len {K : PySem.W.Frag} {n : Nat} {R : List PyData → PyData → Prop} {ps : List Str} (hn : n = ps.length) : ∀ vs H Q E, spP K n R vs H Q E → vs.length = ps.length := fun vs H Q E h => by
  obtain ⟨B, ds, d, _, hl, hd, _⟩ := h
  rw [DqAll.length hd, hl, hn]
theorem spPL_len {K : PySem.W.Frag} {n : Nat} {R : List PyData → List PyData → Prop} {ps : List Str} (hn : n = ps.length) : ∀ vs H Q E, spPL K n R vs H Q E → vs.length = ps.length := fun vs H Q E h => by
  obtain ⟨B, ds, d, _, hl, hd, _⟩ := h
  rw [DqAll.length hd, hl, hn]

section
variable {K : PySem.W.Frag} {σ : L2.St} {H H' : Hp} {ta tb te tx : TE} {t u : TT} {d e z : PyData} {ds es : List PyData} {r : R2}
theorem EvD.mono (x : Ex H H') (h : EvD K te σ H d) : EvD K te σ H' d := fun H1 y Q q => h H1 (x.trans y) Q fun v G H2 g hd => q v _ H2 (g.mono x y).1 (dp_mono (g.mono x y).2 hd)
theorem EvDA.mono {ta : TA} (x : Ex H H') (h : EvDA K ta σ H ds) : EvDA K ta σ H' ds := fun H1 y Q q => h H1 (x.trans y) Q fun v G H2 g hd => q v _ H2 (g.mono x y).1 (dpa_mono (g.mono x y).2 hd)
theorem EvDL.mono (x : Ex H H') (h : EvDL K te σ H es) : EvDL K te σ H' es := fun H1 y Q q => h H1 (x.trans y) Q fun p xs G H2 g0 h0 g hp hd => q p xs _ H2 (by
  unfold both
  rw [fresh_back y h0]
  exact g0) h0 (g.mono x y).1 hp (dpa_mono (g.mono x y).2 hd)
/-- a new list is data, once it does not change any more -/
theorem gr_freeze {H H1 G H2 : Hp} {p : Addr} {xs : List V} (g0 : G p = none) (h0 : H1 p = none) (g : Gr H H1 G H2) (hp : H2 p = some (.lst xs)) : Gr H H1 (upd G p (.lst xs)) H2 := by
  refine ⟨g.hg.trans (Ex.new g0), fun b u q => ?_, g.h12, fun b h1 h2 => ?_⟩
  · by_cases c : b = p
    · subst c
      rw [upd_same] at q
      cases q
      exact hp
    · rw [upd_ne c] at q
      exact g.g2 b u q
  · by_cases c : b = p
    · subst c
      exact absurd h0 h2
    · rw [upd_ne c]
      exact g.sep b h1 h2
theorem dp_freeze {G : Hp} {p : Addr} {xs : List V} (g0 : G p = none) (h : DqAll K G xs es) : Dq K (upd G p (.lst xs)) (.ref p) (.list es) := .lst (sq_of upd_same) (dpa_mono (Ex.new g0) h)
theorem dl_d (h : EvDL K te σ H es) : EvD K te σ H (.list es) := fun H1 x Q q => h H1 x Q fun p xs G H2 g0 h0 g hp ha => q _ _ H2 (gr_freeze g0 h0 g hp) (dp_freeze g0 ha)
theorem d_is (h : EvD K te σ H d) (x : d = e) : EvD K te σ H e := x ▸ h
theorem d_var {i : Nat} {v : V} (h : σ[i]? = some (some v)) (hd : Dq K H v d) : EvD K (tVar i) σ H d := fun H1 x Q q => ⟨v, h, q v H H1 (.refl x) hd⟩
theorem d_int {i : Int} : EvD K (tC (.int i)) σ H (.int i) := fun H1 x _ q => q _ H H1 (.refl x) (.int i)
theorem d_bl {b : Bool} : EvD K (tC (.bl b)) σ H (.bool b) := fun H1 x _ q => q _ H H1 (.refl x) (.bl b)
theorem d_non : EvD K (tC .non) σ H .none := fun H1 x _ q => q _ H H1 (.refl x) .non
theorem d_str {x : Str} : EvD K (tC (.str x)) σ H (.str x) := fun H1 x _ q => q _ H H1 (.refl x) (.str _)
theorem d_op (ha : EvD K ta σ H d) (hb : EvD K tb σ H e) (hr : ∀ G, Ex H G → RD K r d e G z) : EvD K (tOp r ta tb) σ H z := fun H1 x Q q =>
  ha H1 x _ fun v G2 H2 g2 h2 => hb.mono g2.hg H2 g2.g2 _ fun w G3 H3 g3 h3 => hr G3 (g2.hg.trans g3.hg) v w H3 g3.g2 (dp_mono g3.hg h2) h3 Q fun y G4 H4 g4 h4 => q y G4 H4 ((g2.trans g3).trans g4) h4
theorem d_un {r : V → Hp → VK → Prop} (ha : EvD K ta σ H d) (hr : ∀ G, Ex H G → RUD K r d G z) : EvD K (tUn r ta) σ H z := fun H1 x Q q =>
  ha H1 x _ fun v G2 H2 g2 h2 => hr G2 g2.hg v H2 g2.g2 h2 Q fun y G4 H4 g4 h4 => q y G4 H4 (g2.trans g4) h4
theorem rd_I0 {g : Int → Int → V} {i j : Int} (hz : ∀ H, Dq K H (g i j) z) : RD K (rI0 g) (.int i) (.int j) H z := fun x y H1 e hx hy Q q => ⟨i, j, hx.int_of, hy.int_of, q _ H H1 (.refl e) (hz H)⟩
theorem rd_int {g : Int → Int → Int} {i j : Int} : RD K (rI0 fun i j => .int (g i j)) (.int i) (.int j) H (.int (g i j)) := rd_I0 fun _ => .int _
theorem rd_cmp {g : Int → Int → Bool} {i j : Int} : RD K (rI0 fun i j => .bl (g i j)) (.int i) (.int j) H (.bool (g i j)) := rd_I0 fun _ => .bl _
theorem rd_intC {C : Int → Int → Prop} {g : Int → Int → Int} {i j : Int} (hc : C i j) : RD K (rI C fun i j => .int (g i j)) (.int i) (.int j) H (.int (g i j)) := fun x y H1 e hx hy Q q => ⟨i, j, hx.int_of, hy.int_of, hc, q _ H H1 (.refl e) (.int _)⟩
/-- scalars that may be compared: both ints, both texts, both bools, or one of them None -/
def scalD : PyData → PyData → Bool
  | .none, .none => true
  | .none, .int _ => true
  | .int _, .none => true
  | .none, .bool _ => true
  | .bool _, .none => true
  | .none, .str _ => true
  | .str _, .none => true
  | .int _, .int _ => true
  | .bool _, .bool _ => true
  | .str _, .str _ => true
  | _, _ => false
def eqS : PyData → PyData → Bool
  | .none, .none => true
  | .int i, .int j => decide (i = j)
  | .bool i, .bool j => decide (i = j)
  | .str i, .str j => decide (i = j)
  | _, _ => false
theorem scal_of {x y : V} (hx : Dq K H x d) (hy : Dq K H y e) (h : scalD d e = true) : scal x y = true ∧ decide (x = y) = eqS d e := by
  cases d <;> cases e <;> (first | (exfalso; exact Bool.noConfusion (show false = true from h)) | skip)
  · rw [hx.non_of, hy.non_of]; exact ⟨rfl, rfl⟩
  · rw [hx.non_of, hy.bl_of]; exact ⟨rfl, rfl⟩
  · rw [hx.non_of, hy.int_of]; exact ⟨rfl, rfl⟩
  · rw [hx.non_of, hy.str_of]; exact ⟨rfl, rfl⟩
  · rw [hx.bl_of, hy.non_of]; exact ⟨rfl, rfl⟩
  · rename_i a b
    rw [hx.bl_of, hy.bl_of]
    exact ⟨rfl, decide_eq_decide.mpr ⟨fun z => V.bl.inj z, fun z => by rw [z]⟩⟩
  · rw [hx.int_of, hy.non_of]; exact ⟨rfl, rfl⟩
  · rename_i a b
    rw [hx.int_of, hy.int_of]
    exact ⟨rfl, decide_eq_decide.mpr ⟨fun z => V.int.inj z, fun z => by rw [z]⟩⟩
  · rw [hx.str_of, hy.non_of]; exact ⟨rfl, rfl⟩
  · rename_i a b
    rw [hx.str_of, hy.str_of]
    exact ⟨rfl, decide_eq_decide.mpr ⟨fun z => V.str.inj z, fun z => by rw [z]⟩⟩
theorem rd_eq (h : scalD d e = true) : RD K rEq d e H (.bool (eqS d e)) := fun x y H1 ex hx hy Q q => by
  obtain ⟨h1, h2⟩ := scal_of hx hy h
  refine ⟨h1, ?_⟩
  rw [h2]
  exact q _ H H1 (.refl ex) (.bl _)
theorem rd_ne (h : scalD d e = true) : RD K rNe d e H (.bool (!eqS d e)) := fun x y H1 ex hx hy Q q => by
  obtain ⟨h1, h2⟩ := scal_of hx hy h
  refine ⟨h1, ?_⟩
  rw [h2]
  exact q _ H H1 (.refl ex) (.bl _)
def isNonD : PyData → Bool
  | .none => true
  | _ => false
theorem non_iff {x : V} (hx : Dq K H x d) : decide (x = .non) = isNonD d := by
  cases hx <;> rfl
theorem rd_isN : RD K (fun x y H Q => y = .non ∧ Q (.bl (decide (x = .non))) H) d .none H (.bool (isNonD d)) := fun x y H1 ex hx hy Q q => by
  refine ⟨hy.non_of, ?_⟩
  rw [non_iff hx]
  exact q _ H H1 (.refl ex) (.bl _)
theorem rd_notN : RD K (fun x y H Q => y = .non ∧ Q (.bl (!decide (x = .non))) H) d .none H (.bool (!isNonD d)) := fun x y H1 ex hx hy Q q => by
  refine ⟨hy.non_of, ?_⟩
  rw [non_iff hx]
  exact q _ H H1 (.refl ex) (.bl _)
theorem rd_eqD (h1 : SeqAt.shaped d = true) (h2 : SeqAt.shaped e = true) : RD K (rEqD K) d e H (.bool (PyData.eqv d e)) := fun x y H1 ex hx hy Q q => ⟨d, e, (dp_mono ex hx).toP (SeqAt.canLay_of_shaped h1), (dp_mono ex hy).toP (SeqAt.canLay_of_shaped h2), h1, h2, q _ H H1 (.refl ex) (.bl _)⟩
theorem rd_neD (h1 : SeqAt.shaped d = true) (h2 : SeqAt.shaped e = true) : RD K (rNeD K) d e H (.bool (!PyData.eqv d e)) := fun x y H1 ex hx hy Q q => ⟨d, e, (dp_mono ex hx).toP (SeqAt.canLay_of_shaped h1), (dp_mono ex hy).toP (SeqAt.canLay_of_shaped h2), h1, h2, q _ H H1 (.refl ex) (.bl _)⟩
theorem rd_isBl {a b : Bool} : RD K rIsB (.bool a) (.bool b) H (.bool (decide (a = b))) := fun x y H1 ex hx hy Q q => ⟨a, b, hx.bl_of, hy.bl_of, q _ H H1 (.refl ex) (.bl _)⟩
theorem rd_notBl {a b : Bool} : RD K rNotB (.bool a) (.bool b) H (.bool (!decide (a = b))) := fun x y H1 ex hx hy Q q => ⟨a, b, hx.bl_of, hy.bl_of, q _ H H1 (.refl ex) (.bl _)⟩
theorem rud_neg {i : Int} : RUD K (rU fun i => .int (-i)) (.int i) H (.int (-i)) := fun x H1 ex hx Q q => ⟨i, hx.int_of, q _ H H1 (.refl ex) (.int _)⟩

theorem da_nil : EvDA K tNil σ H [] := fun H1 x _ q => q [] H H1 (.refl x) .nil
theorem da_cons {tr : TA} (h : EvD K ta σ H d) (hr : EvDA K tr σ H ds) : EvDA K (tCons ta tr) σ H (d :: ds) := fun H1 x _ q =>
  h H1 x _ fun v G2 H2 g2 h2 => hr.mono g2.hg H2 g2.g2 _ fun vs G3 H3 g3 h3 => q (v :: vs) G3 H3 (g2.trans g3) (.cons (dp_mono g3.hg h2) h3)
theorem d_cb {r : List V → Hp → VK → Prop} {ta : TA} (h : EvDA K ta σ H ds) (hr : ∀ G, Ex H G → RCD K r ds G z) : EvD K (tCB r ta) σ H z := fun H1 x Q q =>
  h H1 x _ fun vs G2 H2 g2 h2 => hr G2 g2.hg vs H2 g2.g2 h2 Q fun v G3 H3 g3 h3 => q v G3 H3 (g2.trans g3) h3
theorem dl_cb {r : List V → Hp → VK → Prop} {ta : TA} (h : EvDA K ta σ H ds) (hr : ∀ G, Ex H G → RCDL K r ds G es) : EvDL K (tCB r ta) σ H es := fun H1 x Q q =>
  h H1 x _ fun vs G2 H2 g2 h2 => hr G2 g2.hg vs H2 g2.g2 h2 Q fun p xs G3 H3 g0 h0 g3 h3 h4 => q p xs G3 H3 g0 (fresh_back g2.h12 h0) (g2.trans g3) h3 h4
theorem d_call {sp : Sp} {dvs : List V} {E : XK} {ta : TA} (h : EvDA K ta σ H ds) (hs : SpD K sp dvs ds z) : EvD K (tCall sp dvs E ta) σ H z := fun H1 x Q q =>
  h H1 x _ fun vs G2 H2 g2 h2 => hs vs G2 H2 g2.g2 h2 Q E fun v G3 H3 g3 h3 => q v G3 H3 (g2.trans g3) h3
theorem dl_call {sp : Sp} {dvs : List V} {E : XK} {ta : TA} (h : EvDA K ta σ H ds) (hs : SpDL K sp dvs ds es) : EvDL K (tCall sp dvs E ta) σ H es := fun H1 x Q q =>
  h H1 x _ fun vs G2 H2 g2 h2 => hs vs G2 H2 g2.g2 h2 Q E fun p xs G H3 g0 h0 g1 h3 h4 => q p xs G H3 g0 (fresh_back g2.h12 h0) (g2.trans g1) h3 h4
theorem sp_P {n : Nat} {R : List PyData → PyData → Prop} (hn : ds.length = n) (h : R ds z) : SpD K (spP K n R) [] ds z := fun vs H H1 x hd Q E q => ⟨H, ds, z, x, hn, by rw [List.append_nil]; exact hd, h, q⟩
theorem sp_PL {n : Nat} {R : List PyData → List PyData → Prop} (hn : ds.length = n) (h : R ds es) : SpDL K (spPL K n R) [] ds es := fun vs H H1 x hd Q E q => ⟨H, ds, es, x, hn, by rw [List.append_nil]; exact hd, h, q⟩
/-- displays -/
theorem d_tup {ta : TA} (h : EvDA K ta σ H ds) (hl : ds.length ≤ 100000) (hn : towerish ds = false) : EvD K (tTup ta) σ H (.tuple ds) := fun H1 x _ q =>
  h H1 x _ fun vs G2 H2 g2 h2 => ⟨sz_of (by rw [DqAll.length h2]; exact hl), fun p hp => q _ _ _ (g2.trans (Gr.new g2.g2 hp)) (.tupN (st_of upd_same) (dpa_mono (Ex.new (fresh_back g2.g2 hp)) h2) hn)⟩
theorem dl_lst {ta : TA} (h : EvDA K ta σ H ds) (hl : ds.length ≤ 100000) : EvDL K (tLst ta) σ H ds := fun H1 x _ q =>
  h H1 x _ fun vs G2 H2 g2 h2 => ⟨sz_of (by rw [DqAll.length h2]; exact hl), fun p hp => q p vs G2 _ (fresh_back g2.g2 hp) (fresh_back g2.h12 hp) (g2.trans (Gr.mut g2.g2 hp)) upd_same h2⟩
/-- tests -/
theorem t_val {b : Bool} (h : EvD K te σ H (.bool b)) : EvT (tB te) σ H b := fun H1 x Q q => h H1 x _ fun v G H2 g h2 => ⟨b, h2.bl_of, q H2 g.h12⟩
theorem d_if {b : Bool} (h : EvT t σ H b) (h1 : b = true → EvD K ta σ H d) (h2 : b = false → EvD K tb σ H d) : EvD K (tIf t ta tb) σ H d := fun H1 x Q q => h H1 x _ fun H2 e2 => by
  cases b with
  | true => exact h1 rfl H2 (x.trans e2) Q fun v G H3 g h3 => q v G H3 ⟨g.hg, g.g2, e2.trans g.h12, fun b y1 y2 => g.sep b y1 fun z => y2 (fresh_back e2 z)⟩ h3
  | false => exact h2 rfl H2 (x.trans e2) Q fun v G H3 g h3 => q v G H3 ⟨g.hg, g.g2, e2.trans g.h12, fun b y1 y2 => g.sep b y1 fun z => y2 (fresh_back e2 z)⟩ h3
theorem d_and {a b : Bool} (h1 : EvD K ta σ H (.bool a)) (h2 : a = true → EvD K tb σ H (.bool b)) : EvD K (tAndV ta tb) σ H (.bool (a && b)) := fun H1 x Q q => h1 H1 x _ fun v G2 H2 g2 hv => ⟨a, hv.bl_of, by
  cases a with
  | true => exact (h2 rfl).mono g2.hg H2 g2.g2 Q fun w G3 H3 g3 h3 => q w G3 H3 (g2.trans g3) h3
  | false => exact q _ G2 H2 g2 (.bl false)⟩
theorem d_or {a b : Bool} (h1 : EvD K ta σ H (.bool a)) (h2 : a = false → EvD K tb σ H (.bool b)) : EvD K (tOrV ta tb) σ H (.bool (a || b)) := fun H1 x Q q => h1 H1 x _ fun v G2 H2 g2 hv => ⟨a, hv.bl_of, by
  cases a with
  | false => exact (h2 rfl).mono g2.hg H2 g2.g2 Q fun w G3 H3 g3 h3 => q w G3 H3 (g2.trans g3) h3
  | true => exact q _ G2 H2 g2 (.bl true)⟩
theorem d_not {a : Bool} (h1 : EvD K ta σ H (.bool a)) : EvD K (tNotV ta) σ H (.bool (!a)) := fun H1 x Q q => h1 H1 x _ fun v G2 H2 g2 hv => ⟨a, hv.bl_of, q _ G2 H2 g2 (.bl _)⟩
end

/-! ### statements: B is what is known for good -/
section
variable {K : PySem.W.Frag} {σ : L2.St} {B H H' : Hp} {ta tb te tx : TE} {t u : TT} {d e z : PyData} {ds es : List PyData} {D : Ends} {tu tw tz : TS} {g : TG}
theorem sd_asg {i : Nat} (x : Ex B H) (h : EvD K te σ B d) (k : ∀ v G H1, Gr B H G H1 → Dq K G v d → D.nx (σ.set i (some v)) H1) : tAsg te (gName i) D σ H := h H x _ k
theorem sd_ret (x : Ex B H) (h : EvD K te σ B d) (k : ∀ v G H1, Gr B H G H1 → Dq K G v d → D.rt v H1) : tRet te D σ H := h H x _ k
theorem sd_retL (x : Ex B H) (h : EvDL K te σ B es) (k : ∀ p xs G H2, G p = none → H p = none → Gr B H G H2 → H2 p = some (.lst xs) → DqAll K G xs es → D.rt (.ref p) H2) : tRet te D σ H := h H x _ k
theorem sd_asgL {i : Nat} (x : Ex B H) (h : EvDL K te σ B es) (k : ∀ p xs G H2, G p = none → H p = none → Gr B H G H2 → H2 p = some (.lst xs) → DqAll K G xs es → D.nx (σ.set i (some (.ref p))) H2) : tAsg te (gName i) D σ H := h H x _ k
theorem sd_drop (x : Ex B H) (h : EvD K te σ B d) (k : ∀ H1, Ex H H1 → D.nx σ H1) : tDrop te D σ H := h H x _ fun _ G H1 g _ => k H1 g.h12
theorem qd_asg {i : Nat} (x : Ex B H) (h : EvD K te σ B d) (k : ∀ v G H1, Gr B H G H1 → Dq K G v d → tz D (σ.set i (some v)) H1) : tSeq (tAsg te (gName i)) tz D σ H := sd_asg (D := { D with nx := tz D }) x h k
theorem qd_asgL {i : Nat} (x : Ex B H) (h : EvDL K te σ B es) (k : ∀ p xs G H2, G p = none → H p = none → Gr B H G H2 → H2 p = some (.lst xs) → DqAll K G xs es → tz D (σ.set i (some (.ref p))) H2) : tSeq (tAsg te (gName i)) tz D σ H := sd_asgL (D := { D with nx := tz D }) x h k
theorem qd_drop (x : Ex B H) (h : EvD K te σ B d) (k : ∀ H1, Ex H H1 → tz D σ H1) : tSeq (tDrop te) tz D σ H := sd_drop (D := { D with nx := tz D }) x h k
theorem sd_if {b : Bool} (x : Ex B H) (h : EvT t σ B b) (h1 : b = true → ∀ H1, Ex H H1 → tu D σ H1) (h2 : b = false → ∀ H1, Ex H H1 → tw D σ H1) : tIfS t tu tw D σ H := s_if (fun H1 a Q q => h H1 (x.trans a) Q q) h1 h2
theorem qd_if {b : Bool} (x : Ex B H) (h : EvT t σ B b) (h1 : b = true → ∀ H1, Ex H H1 → tu { D with nx := tz D } σ H1) (h2 : b = false → ∀ H1, Ex H H1 → tw { D with nx := tz D } σ H1) : tSeq (tIfS t tu tw) tz D σ H := sd_if (D := { D with nx := tz D }) x h h1 h2
theorem qd_when {b : Bool} (x : Ex B H) (h : EvT t σ B b) (h1 : b = true → ∀ H1, Ex H H1 → tu { D with nx := tz D } σ H1) (h2 : b = false → ∀ H1, Ex H H1 → tz D σ H1) : tSeq (tIfS t tu tNext) tz D σ H := sd_if (D := { D with nx := tz D }) x h h1 h2
theorem sd_when {b : Bool} (x : Ex B H) (h : EvT t σ B b) (h1 : b = true → ∀ H1, Ex H H1 → tu D σ H1) (h2 : b = false → ∀ H1, Ex H H1 → D.nx σ H1) : tIfS t tu tNext D σ H := sd_if x h h1 h2
/-- if a: (never) -/
theorem qd_no {y : TS} (x : Ex B H) (h : EvT t σ B false) (k : ∀ H1, Ex H H1 → tz D σ H1) : tSeq (tIfS t y tNext) tz D σ H := qd_when x h (fun z => Bool.noConfusion z) fun _ => k
theorem sd_no {y : TS} (x : Ex B H) (h : EvT t σ B false) (k : ∀ H1, Ex H H1 → D.nx σ H1) : tIfS t y tNext D σ H := sd_when x h (fun z => Bool.noConfusion z) fun _ => k
end

/-! ### a row that is walked, a row that is unpacked -/
def iRow (K : PySem.W.Frag) (tl : TE) : TI := fun σ H R => tl σ H fun x H1 => ∃ a, x = .ref a ∧ (((∃ xs, SqL K H1 a xs) ∧ R (Itl K a) H1) ∨ ((∃ xs, SqT K H1 a xs) ∧ R (Itt K a) H1))
theorem pi_row {X : Cx} {tg l : Expr} {tl : TE} (hl : PE X l tl) : PI X tg l (iRow X.K tl) := by
  refine ⟨fun pns st σ H R I0 h => thn (hl.run pns st σ H _ I0 h) fun u st1 ⟨x, Hn, In, rx, q1⟩ => ?_⟩
  obtain ⟨a, ex, q⟩ := q1
  subst ex
  cases rx
  have fresh : ∀ b ∈ [st1.heap.objs.size], FpOk X pns Hn b := fun b hb => by
    rw [List.mem_singleton.mp hb]
    exact In.fpOk (Nat.le_refl _) (In.hok.fresh (Nat.le_refl _))
  rcases q with ⟨⟨xs, hq⟩, q⟩ | ⟨⟨xs, hq⟩, q⟩
  · obtain ⟨its, _, pl, _⟩ := In.list hq
    exact wpAny_pyIter_list pl.isList ⟨_, [st1.heap.objs.size], _, _, Hn, rfl, In.kept (t' := st1.toks) (fun _ _ z => Heap.get?_push_of_some _ z), turn_list a _, ⟨_, Heap.get?_push_size _ rfl, rfl, rfl⟩, fresh, q⟩
  · obtain ⟨its, _, pl, _⟩ := In.tuple hq
    exact wpAny_pyIter_tuple (show st1.heap.IsTuple a its.toArray from pl) ⟨_, [st1.heap.objs.size], _, _, Hn, rfl, In.kept (t' := st1.toks) (fun _ _ z => Heap.get?_push_of_some _ z), turn_tuple a _, ⟨_, Heap.get?_push_size _ rfl, rfl, rfl⟩, fresh, q⟩
def gRow (K : PySem.W.Frag) (n : Nat) (t : TGs) : TG := fun v σ H Q => ∃ a xs, v = .ref a ∧ Row K H a xs ∧ xs.length = n ∧ t xs σ H Q
theorem pg_row {X : Cx} {pos : Pos} {es : List Expr} {k : Nat} {t : TGs} {n : Nat} (hc : X.calm = true) (h : PGs X es t)
    (hn : (assignEach es X.env).length = n := by rfl) (hst : (assignEach es X.env).findIdx? (·.1) = none := by rfl) : PG X (.Tuple es k pos) (gRow X.K n t) := by
  refine ⟨fun pins s σ H v u Q I r hw => ?_⟩
  obtain ⟨a, xs, e1, hq, hl, hw⟩ := hw
  rcases hq with hq | hq
  · exact (pg_unl hc h hn hst).run pins s σ H v u Q I r ⟨a, xs, e1, hq, hl, hw⟩
  · exact (pg_tup hc h hn hst).run pins s σ H v u Q I r ⟨a, xs, e1, hq, hl, hw⟩
/-- (i, j) = a pair -/
theorem g_pair {K : PySem.W.Frag} {H : Hp} {σ : L2.St} {v : V} {b : Bool} {d e : PyData} {i j : Nat} {Q : L2.St → Hp → Prop} (h : Dq K H v (rows b [d, e]))
    (k : ∀ x y, Dq K H x d → Dq K H y e → Q ((σ.set i (some x)).set j (some y)) H) : gRow K 2 (gCons (gName i) (gCons (gName j) gNil)) v σ H Q := by
  obtain ⟨a, xs, e1, hr, ha⟩ := row_of h
  cases ha with
  | cons h1 a1 =>
    cases a1 with
    | cons h2 a2 =>
      cases a2
      exact ⟨a, _, e1, hr, rfl, _, _, rfl, _, _, rfl, rfl, k _ _ h1 h2⟩

section
variable {K : PySem.W.Frag} {σ : L2.St} {G H H' : Hp} {D : Ends} {tu tz : TS} {g : TG} {ds : List PyData} {b : Bool} {v : V}
/-- for .. in a row that G knows, at the j-th slot -/
theorem sd_for {j : Nat} (e : Ex G H) (hd : Dq K G v (rows b ds)) (hv : σ[j]? = some (some v)) (Pv : Nat → L2.St → Hp → Prop) (h0 : Pv 0 σ H) (hG : ∀ i σ' H', i ≤ ds.length → Pv i σ' H' → Ex G H')
    (hs : ∀ i d x σ' H', ds[i]? = some d → Dq K G x d → Pv i σ' H' → g x σ' H' fun σ2 H2 => tu { D with nx := Pv (i + 1), ct := Pv (i + 1), bk := D.nx } σ2 H2)
    (hn : ∀ σ' H', Pv ds.length σ' H' → D.nx σ' H') : tFor (iRow K (tVar j)) g tu D σ H := by
  obtain ⟨a, xs, rfl, hr, ha⟩ := row_of hd
  have hl := ha.length
  refine ⟨_, hv, a, rfl, ?_⟩
  rcases hr with hr | hr
  · refine .inl ⟨⟨xs, ex_l e hr⟩, for_list (xs := xs) Pv h0 (fun i σ' H' hi p => ex_l (hG i σ' H' (by omega) p) hr) (fun i x σ' H' hx p => ?_) (by rw [hl]; exact hn)⟩
    obtain ⟨d, h1, h2⟩ := ha.get hx
    exact hs i d x σ' H' h1 h2 p
  · refine .inr ⟨⟨xs, ex_t e hr⟩, for_tup (xs := xs) Pv h0 (fun i σ' H' hi p => ex_t (hG i σ' H' (by omega) p) hr) (fun i x σ' H' hx p => ?_) (by rw [hl]; exact hn)⟩
    obtain ⟨d, h1, h2⟩ := ha.get hx
    exact hs i d x σ' H' h1 h2 p
theorem qd_for {j : Nat} (e : Ex G H) (hd : Dq K G v (rows b ds)) (hv : σ[j]? = some (some v)) (Pv : Nat → L2.St → Hp → Prop) (h0 : Pv 0 σ H) (hG : ∀ i σ' H', i ≤ ds.length → Pv i σ' H' → Ex G H')
    (hs : ∀ i d x σ' H', ds[i]? = some d → Dq K G x d → Pv i σ' H' → g x σ' H' fun σ2 H2 => tu { D with nx := Pv (i + 1), ct := Pv (i + 1), bk := tz D } σ2 H2)
    (hn : ∀ σ' H', Pv ds.length σ' H' → tz D σ' H') : tSeq (tFor (iRow K (tVar j)) g tu) tz D σ H := sd_for (D := { D with nx := tz D }) e hd hv Pv h0 hG hs hn
end
end Tb
end

section
set_option Elab.async false
set_option linter.all false
set_option maxRecDepth 100000
set_option maxHeartbeats 1000000
/-! Toss base 3: enumerate over a row, with a start or none. -/
namespace Tb
open PySem PySem.Spec PyProof.Rows L2 Evl

theorem meets_enum1 {v : Value} {ob : Obj} {Hs : Heap → Prop} (B : Begins v ob Hs) :
    Meets (Builtin.«enumerate.__new__» ⟨[.type "enumerate", v], []⟩) (fun _ Rr st => Hs st.heap ∧
      Rr (.ok (.ret (.ref (st.heap.push ob).objs.size))) { st with heap := (st.heap.push ob).push { cls := .type "enumerate", data := .fields #[.none, .bool false, .ref st.heap.objs.size, rawInt 0, .none, .none] } }) :=
  .of_wp fun prog w A R st hh => by
    obtain ⟨hp, gg, dd, tk, os⟩ := st
    obtain ⟨h1, hh⟩ := hh
    have hsub := sub_enumerate
    have q1 : ∀ {A' : Around} {E' : Value → Shared → Prop} {Q' : Value → Shared → Prop}, Q' (.ref hp.objs.size) ⟨hp.push ob, gg, dd, tk, os⟩ → wpAny (model prog w) A' (pyIter v) Q' E' ⟨hp, gg, dd, tk, os⟩ :=
      fun q => B.iter prog w _ _ ⟨hp, gg, dd, tk, os⟩ _ h1 q
    wp_walk using q1
    refine wpAny_stack_any fun _ => wpAny_pure ?_
    split
    · rename_i cc _ _ _ _ _
      cases (cc == Value.type "enumerate") <;> (wp_walk using q1; exact ⟨_, rfl, hh⟩)
    · wp_walk using q1
      exact ⟨_, rfl, hh⟩
theorem enum_begins1 {prog : Program} {w : World} {A : Around} {E : Value → Shared → Prop} {st : Shared} {v : Value} {ob : Obj} {Hs : Heap → Prop} {Q : Value → Shared → Prop} (B : Begins v ob Hs) (h1 : Hs st.heap)
    (k : ∀ h', IsEnum h' (st.heap.objs.size + 1) st.heap.objs.size 0 .none → h'.get? st.heap.objs.size = some ob → (∀ b u, st.heap.get? b = some u → h'.get? b = some u) → Q (.ref (st.heap.objs.size + 1)) { st with heap := h' }) :
    wpAny (model prog w) A (call (.type "enumerate") [v]) Q E st := by
  refine callType_new F.called_enumerate (by decide) (F.typeCall_enumerate_1 _) (F.newCall_enumerate_1 _) (fun u => F.args_object_init_2 u _) F.entry_enumerate_new (meets_enum1 B) ⟨h1, ?_⟩
  have hz : (st.heap.push ob).objs.size = st.heap.objs.size + 1 := Heap.size_push ..
  show _ ∧ _
  rw [hz]
  have he : IsEnum ((st.heap.push ob).push { cls := .type "enumerate", data := .fields #[.none, .bool false, .ref st.heap.objs.size, rawInt 0, .none, .none] }) (st.heap.objs.size + 1) st.heap.objs.size 0 .none := by
    have z := Heap.get?_push_size (st.heap.push ob) (o := { cls := .type "enumerate", data := .fields #[.none, .bool false, .ref st.heap.objs.size, rawInt 0, .none, .none] }) rfl
    rw [hz] at z
    exact z
  exact ⟨⟨_, he, rfl⟩, k _ he (Heap.get?_push_of_some _ (Heap.get?_push_size _ B.free)) fun b u z => Heap.get?_push_of_some _ (Heap.get?_push_of_some _ z)⟩

/-! ### the turns -/
def IteL (K : PySem.W.Frag) (a : Addr) (k0 : Int) : It :=
  ⟨fun i H => ∃ xs x, SqL K H a xs ∧ xs[i]? = some x, fun i H v H' => ∃ T x, v = .ref T ∧ H T = none ∧ H' = upd H T (.tup [.int (k0 + (i : Nat)), x]) ∧ ∀ xs, SqL K H a xs → xs[i]? = some x, fun i H => ∃ xs, SqL K H a xs ∧ xs.length = i⟩
def IteT (K : PySem.W.Frag) (a : Addr) (k0 : Int) : It :=
  ⟨fun i H => ∃ xs x, SqT K H a xs ∧ xs[i]? = some x, fun i H v H' => ∃ T x, v = .ref T ∧ H T = none ∧ H' = upd H T (.tup [.int (k0 + (i : Nat)), x]) ∧ ∀ xs, SqT K H a xs → xs[i]? = some x, fun i H => ∃ xs, SqT K H a xs ∧ xs.length = i⟩
/-- one turn, whatever is walked -/
theorem enum_turn {X : Cx} {pins : List (Addr × Obj)} {σ : L2.St} {H : Hp} {st : Shared} {E : Value → Shared → Prop} {elts : List Expr} {kk : Nat} {tpos : Pos} {e it : Addr} {fp : List Addr} {n i : Nat} {P : Nat → Value → Prop} {Sx : Nat → Heap → Prop} {k0 : Int} {x : V}
    (I : Inv X pins σ H st) (D : Draws X.prog X.w X.A.in1 it fp n P Sx) (hf : ∀ b ∈ [e, it], FpOk X pins H b) (he : ∃ old, IsEnum st.heap e it (k0 + (i : Nat)) old) (hs : Sx i st.heap) (hi : i < n) (hne : e ≠ it) (hef : e ∉ fp) (hr : ∀ u, P i u → RelV x u)
    {R : Heap → Prop} (keepR : ∀ h h', Sx (i + 1) h → Heap.SameBut e h h' → R h') :
    wpAny (model X.prog X.w) X.A (pyNext (.ref e)) (fun r s1 => ∃ u, r = some u ∧
      wpAny (model X.prog X.w) X.A (letOwnedTupleGo (.Tuple elts kk tpos) (.ref e) u) (fun _ s2 => ∃ v H', Inv X pins σ H' s2 ∧ RelV v u ∧ (∃ T, v = .ref T ∧ H T = none ∧ H' = upd H T (.tup [.int (k0 + (i : Nat)), x])) ∧
        ((∃ old, IsEnum s2.heap e it (k0 + ((i + 1 : Nat) : Int)) old) ∧ R s2.heap) ∧ ∀ b ∈ [e, it], H' b = none) E s1) E st := by
  obtain ⟨old, he⟩ := he
  have hel : e < st.heap.objs.size := Heap.lt_size he
  have hil : it < st.heap.objs.size := by
    obtain ⟨_, z⟩ := D.live _ _ hs
    exact Heap.lt_size z
  refine wpAny_pyNext_enum_itemC D he hs hi hne hef fun u h' tk hP ho hs' hT hsz hk => ?_
  refine ⟨_, rfl, wpAny_letOwnedTupleGo_enum (s := { st with heap := h', toks := tk + 1 }) ho fun h2 he2 sb => ?_⟩
  have hT2 : h2.get? st.heap.objs.size = some { cls := .type "tuple", data := .seq #[.int (k0 + (i : Nat)) tk, u] } := (sb.2 _ (Nat.ne_of_gt hel)).trans hT
  have new : ObjOk X.prog X.w (upd H st.heap.objs.size (.tup [.int (k0 + (i : Nat)), x])) h2 st.heap.objs.size (.tup [.int (k0 + (i : Nat)), x]) :=
    ⟨by show 2 ≤ sizeLine; decide, [.int (k0 + (i : Nat)) tk, u], .cons ⟨_, rfl⟩ (.cons (hr u hP) .nil), ⟨_, hT2, rfl, _, rfl⟩⟩
  have I1 : Inv X pins σ (upd H st.heap.objs.size (.tup [.int (k0 + (i : Nat)), x])) { st with heap := h2, toks := tk + 1 } :=
    I.turnedNew (ch := [e, it]) (fun b ob hb q => (sb.2 b (fun z => hb (by simp [z]))).trans (hk b ob (fun z => hb (by simp [z])) (fun z => hb (by simp [z])) q)) hf (Nat.le_refl _) new
  refine ⟨.ref st.heap.objs.size, _, I1, rfl, ⟨_, rfl, I.hok.fresh (Nat.le_refl _), rfl⟩, ⟨⟨u, ?_⟩, keepR _ _ hs' sb⟩, fun b hb => ?_⟩
  · have e1 : k0 + ((i + 1 : Nat) : Int) = k0 + (i : Nat) + 1 := by omega
    rw [e1]
    exact he2
  · have hb' : b < st.heap.objs.size := by
      have z : b = e ∨ b = it := by simpa using hb
      rcases z with z | z
      · rw [z]; exact hel
      · rw [z]; exact hil
    rw [upd_ne (Nat.ne_of_lt hb')]
    exact (hf b hb).1
theorem turn_enumL {P : Program} {w : World} {K : PySem.W.Frag} {elts : List Expr} {kk : Nat} {tpos : Pos} (k0 : Int) (a e it : Addr) (hae : a ≠ e) (hai : a ≠ it) :
    Turn P w K (.Tuple elts kk tpos) (IteL K a k0) [e, it] e (fun i h => (∃ old, IsEnum h e it (k0 + (i : Nat)) old) ∧ h.IsListIter it a i ∧ e ≠ it) where
  mem := by simp
  obj := fun i h z b hb => by
    obtain ⟨⟨old, he⟩, ⟨o, ho, hc, hd⟩, _⟩ := z
    have e' : b = e ∨ b = it := by simpa using hb
    rcases e' with z | z
    · rw [z]; exact ⟨_, he, fun v q => nomatch q⟩
    · rw [z]; exact ⟨o, ho, fun v q => by rw [hd] at q; cases q⟩
  keep := fun i h h' z k => by
    obtain ⟨⟨old, he⟩, hi, hne⟩ := z
    exact ⟨⟨old, k e (by simp) _ he⟩, hi.at fun o q => k it (by simp) o q, hne⟩
  item := by
    intro X hP hw hK hc i pins s σ H E I hf st hg
    subst hP hw hK
    obtain ⟨he, hit, hne⟩ := st
    obtain ⟨xs, x, hq, hx⟩ := hg
    obtain ⟨its, rv, p, hz⟩ := I.list hq
    obtain ⟨u, hu, ru⟩ := rv.get hx
    have hul : its.toArray[i]? = some u := by simpa using hu
    have hlt : i < its.toArray.size := (Array.getElem?_eq_some_iff.mp hul).1
    refine wpAny_mono (enum_turn (elts := elts) (kk := kk) (tpos := tpos) (R := fun h => h.IsListIter it a (i + 1)) I (Draws.list (by exact I.ok.hd hc) it a hai its.toArray) hf he ⟨hit, p.isList⟩ hlt hne (by simp [hne, hae.symm]) (x := x) (fun u' h' => ?_) (fun h h' hs sb => hs.1.at fun o q => (sb.2 it hne.symm).trans q)) (fun r s1 h => ?_) fun _ _ z => z
    · have e1 : u' = u := Option.some.inj (h'.symm.trans hul)
      rw [e1]
      exact ru
    · obtain ⟨u', er, q⟩ := h
      refine ⟨u', er, wpAny_mono q (fun _ s2 h2 => ?_) fun _ _ z => z⟩
      obtain ⟨v, H', I', rv', ⟨T, e1, e2, e3⟩, ⟨z1, z2⟩, z3⟩ := h2
      exact ⟨v, H', I', rv', ⟨T, x, e1, e2, e3, fun ys hy => by rw [I.list_inj hy hq]; exact hx⟩, ⟨z1, z2, hne⟩, z3⟩
  done := by
    intro X hP hw hK hc i pins s σ H E I hf st hg
    subst hP hw hK
    obtain ⟨⟨old, he⟩, hit, hne⟩ := st
    obtain ⟨xs, hq, hx⟩ := hg
    obtain ⟨its, rv, p, hz⟩ := I.list hq
    obtain ⟨f0, f1, f2, f3, f4, f5⟩ := hf it (by simp)
    have hl : i = its.toArray.size := by
      have := rv.length
      simp only [List.size_toArray]
      omega
    subst hl
    exact wpAny_pyNext_enum_endD (Draws.list (by exact I.ok.hd hc) it a hai its.toArray) he ⟨hit, p.isList⟩ fun h' eb => ⟨rfl, I.turned (t' := s.toks) (fun b o hb q => eb b o hb q) f0 f1 f3 f4 f5⟩
  self := fun A i s Q E z hQ => by
    obtain ⟨⟨old, he⟩, _⟩ := z
    exact wpAny_pyIter_enum he hQ
theorem turn_enumT {P : Program} {w : World} {K : PySem.W.Frag} {elts : List Expr} {kk : Nat} {tpos : Pos} (k0 : Int) (a e it : Addr) (hae : a ≠ e) (hai : a ≠ it) :
    Turn P w K (.Tuple elts kk tpos) (IteT K a k0) [e, it] e (fun i h => (∃ old, IsEnum h e it (k0 + (i : Nat)) old) ∧ h.IsTupleIter it a i ∧ e ≠ it) where
  mem := by simp
  obj := fun i h z b hb => by
    obtain ⟨⟨old, he⟩, ⟨o, ho, hc, hd⟩, _⟩ := z
    have e' : b = e ∨ b = it := by simpa using hb
    rcases e' with z | z
    · rw [z]; exact ⟨_, he, fun v q => nomatch q⟩
    · rw [z]; exact ⟨o, ho, fun v q => by rw [hd] at q; cases q⟩
  keep := fun i h h' z k => by
    obtain ⟨⟨old, he⟩, hi, hne⟩ := z
    exact ⟨⟨old, k e (by simp) _ he⟩, hi.at fun o q => k it (by simp) o q, hne⟩
  item := by
    intro X hP hw hK hc i pins s σ H E I hf st hg
    subst hP hw hK
    obtain ⟨he, hit, hne⟩ := st
    obtain ⟨xs, x, hq, hx⟩ := hg
    obtain ⟨its, rv, p, hz⟩ := I.tuple hq
    obtain ⟨u, hu, ru⟩ := rv.get hx
    have hul : its.toArray[i]? = some u := by simpa using hu
    have hlt : i < its.toArray.size := (Array.getElem?_eq_some_iff.mp hul).1
    refine wpAny_mono (enum_turn (elts := elts) (kk := kk) (tpos := tpos) (R := fun h => h.IsTupleIter it a (i + 1)) I (Draws.tuple (by exact I.ok.hd hc) it a hai its.toArray) hf he ⟨hit, (show s.heap.IsTuple a its.toArray from p)⟩ hlt hne (by simp [hne, hae.symm]) (x := x) (fun u' h' => ?_) (fun h h' hs sb => hs.1.at fun o q => (sb.2 it hne.symm).trans q)) (fun r s1 h => ?_) fun _ _ z => z
    · have e1 : u' = u := Option.some.inj (h'.symm.trans hul)
      rw [e1]
      exact ru
    · obtain ⟨u', er, q⟩ := h
      refine ⟨u', er, wpAny_mono q (fun _ s2 h2 => ?_) fun _ _ z => z⟩
      obtain ⟨v, H', I', rv', ⟨T, e1, e2, e3⟩, ⟨z1, z2⟩, z3⟩ := h2
      exact ⟨v, H', I', rv', ⟨T, x, e1, e2, e3, fun ys hy => by rw [I.tuple_inj hy hq]; exact hx⟩, ⟨z1, z2, hne⟩, z3⟩
  done := by
    intro X hP hw hK hc i pins s σ H E I hf st hg
    subst hP hw hK
    obtain ⟨⟨old, he⟩, hit, hne⟩ := st
    obtain ⟨xs, hq, hx⟩ := hg
    obtain ⟨its, rv, p, hz⟩ := I.tuple hq
    obtain ⟨f0, f1, f2, f3, f4, f5⟩ := hf it (by simp)
    have hl : i = its.toArray.size := by
      have := rv.length
      simp only [List.size_toArray]
      omega
    subst hl
    exact wpAny_pyNext_enum_endD (Draws.tuple (by exact I.ok.hd hc) it a hai its.toArray) he ⟨hit, (show s.heap.IsTuple a its.toArray from p)⟩ fun h' eb => ⟨rfl, I.turned (t' := s.toks) (fun b o hb q => eb b o hb q) f0 f1 f3 f4 f5⟩
  self := fun A i s Q E z hQ => by
    obtain ⟨⟨old, he⟩, _⟩ := z
    exact wpAny_pyIter_enum he hQ

/-! ### enumerate(row), enumerate(row, start=k) -/
/-- what is walked: a list or a tuple, counted from k0 -/
def rEnum (K : PySem.W.Frag) (k0 : Int) (R : It → Hp → Prop) : V → Hp → Prop := fun v H1 => ∃ a, v = .ref a ∧ (((∃ xs, SqL K H1 a xs) ∧ R (IteL K a k0) H1) ∨ ((∃ xs, SqT K H1 a xs) ∧ R (IteT K a k0) H1))
theorem enum_made {X : Cx} {pins : List (Addr × Obj)} {σ : L2.St} {H : Hp} {st : Shared} {E : Value → Shared → Prop} {elts : List Expr} {kk : Nat} {tpos : Pos} {R : It → Hp → Prop} {v : V} {u : Value} {k0 : Int} {f : Sem Value}
    (I : Inv X pins σ H st) (rv : RelV v u) (q : rEnum X.K k0 R v H)
    (hf : ∀ (ob : Obj) (Hs : Heap → Prop), Begins u ob Hs → Hs st.heap → ∀ Q : Value → Shared → Prop, (∀ h', IsEnum h' (st.heap.objs.size + 1) st.heap.objs.size k0 .none → h'.get? st.heap.objs.size = some ob → (∀ b o, st.heap.get? b = some o → h'.get? b = some o) → Q (.ref (st.heap.objs.size + 1)) { st with heap := h' }) →
      wpAny (model X.prog X.w) X.A f Q E st) :
    wpAny (model X.prog X.w) X.A f (fun itv s1 => wpAny (model X.prog X.w) X.A (pyIter itv) (PIE X pins σ (.Tuple elts kk tpos) R) E s1) E st := by
  obtain ⟨a, ev, q⟩ := q
  subst ev
  cases rv
  have big : ∀ b ∈ [st.heap.objs.size + 1, st.heap.objs.size], FpOk X pins H b := fun b hb => by
    have e' : b = st.heap.objs.size + 1 ∨ b = st.heap.objs.size := by simpa using hb
    have hle : st.heap.objs.size ≤ b := by
      rcases e' with z | z
      · rw [z]; exact Nat.le_add_right _ _
      · rw [z]; exact Nat.le_refl _
    exact I.fpOk hle (I.hok.fresh hle)
  have e0 : k0 + ((0 : Nat) : Int) = k0 := Int.add_zero _
  rcases q with ⟨⟨xs, hq⟩, q⟩ | ⟨⟨xs, hq⟩, q⟩
  · obtain ⟨its, _, pl, _⟩ := I.list hq
    have hl := pl.isList
    have hal : a < st.heap.objs.size := by
      obtain ⟨o, z, _⟩ := hl
      exact Heap.lt_size z
    refine hf _ _ (begins_list a its.toArray) hl _ fun h' he ho hk => wpAny_pyIter_enum he ?_
    exact ⟨st.heap.objs.size + 1, [st.heap.objs.size + 1, st.heap.objs.size], _, _, H, rfl, I.kept (t' := st.toks) hk, turn_enumL k0 a _ _ (Nat.ne_of_lt (Nat.lt_succ_of_lt hal)) (Nat.ne_of_lt hal), ⟨⟨.none, by rw [e0]; exact he⟩, ⟨_, ho, rfl, rfl⟩, Nat.succ_ne_self _⟩, big, q⟩
  · obtain ⟨its, _, pl, _⟩ := I.tuple hq
    have hl : st.heap.IsTuple a its.toArray := pl
    have hal : a < st.heap.objs.size := pl.lt
    refine hf _ _ (begins_tuple a its.toArray) hl _ fun h' he ho hk => wpAny_pyIter_enum he ?_
    exact ⟨st.heap.objs.size + 1, [st.heap.objs.size + 1, st.heap.objs.size], _, _, H, rfl, I.kept (t' := st.toks) hk, turn_enumT k0 a _ _ (Nat.ne_of_lt (Nat.lt_succ_of_lt hal)) (Nat.ne_of_lt hal), ⟨⟨.none, by rw [e0]; exact he⟩, ⟨_, ho, rfl, rfl⟩, Nat.succ_ne_self _⟩, big, q⟩
def iEnumR (K : PySem.W.Frag) (ta : TA) : TI := fun σ H R => ta σ H fun vs H1 => ∃ v, vs = [v] ∧ rEnum K 0 R v H1
def iEnumS (K : PySem.W.Frag) (ta tk : TA) : TI := fun σ H R => ta σ H fun vs H1 => tk σ H1 fun zs H2 => ∃ v k0, vs = [v] ∧ zs = [.int k0] ∧ -(2 ^ 63) ≤ k0 ∧ k0 < 2 ^ 63 ∧ rEnum K k0 R v H2
theorem pi_enumR {X : Cx} {e : Expr} {ta : TA} {p pos tpos : Pos} {elts : List Expr} {kk : Nat} (hg : Gl X "enumerate") (hm : X.mg "enumerate" = none) (ha : PA X [e] ta) (hs : starEach [e] X.env = [(false, eval e X.env)] := by rfl) :
    PI X (.Tuple elts kk tpos) (.Call (.Name "enumerate" p) [e] [] pos) (iEnumR X.K ta) := by
  refine ⟨fun pns st σ H R I0 h => ?_⟩
  refine Call_ (ld_blt I0 hg hm boot_enumerate (PyProof.Rows.callWith_type1 (thn (ha.run pos pns st σ H _ I0 h) fun us s1 ⟨vs, H1, I1, r1, q1⟩ => ?_) hs rfl))
  obtain ⟨v, e1, q⟩ := q1
  subst e1
  cases r1 with
  | cons r rr =>
    cases rr
    exact enum_made I1 r q fun ob Hs B h1 Q k => enum_begins1 B h1 k
/-- a built-in class called with keywords -/
theorem callWith_tyKw {M : Model} {A : Around} {E : Value → Shared → Prop} {st : Shared} {env : Env} {pos : Pos} {T : String} {e : Expr} {rest : List Expr} {kws : List Keyword} {Q : Value → Shared → Prop}
    (h : wpAny M A (spliced (backTo pos (starEach (e :: rest) env))) (fun vs s1 => wpAny M A (evalAll ((backToKw pos (keywordEach kws env)).map (·.2)))
      (fun ws s2 => wpAny M A (call (.type T) vs (((backToKw pos (keywordEach kws env)).filterMap (·.1)).zip ws)) Q E s2) E s1) E st)
    (he : backTo pos (starEach (e :: rest) env) = (false, eval e env) :: backTo pos (starEach rest env)) (hpl : (backTo pos (starEach (e :: rest) env)).any (·.1) = false)
    (hall : (backToKw pos (keywordEach kws env)).all (·.1.isSome) = true) (hkw : (backToKw pos (keywordEach kws env)).any (·.1.isNone) = false) :
    wpAny M A (callWith pos (.type T) [] (backTo pos (starEach (e :: rest) env)) (backToKw pos (keywordEach kws env))) Q E st := by
  have h2 : wpAny M A (evalArgs (.type T) true (backTo pos (starEach (e :: rest) env)) (backToKw pos (keywordEach kws env))) (fun a s1 => wpAny M A (call (.type T) ([] ++ a.pos) a.kw) Q E s1) E st := by
    rw [he] at h ⊢
    exact PyProof.Rows.evalArgs_kwB hall h
  unfold callWith
  refine wpAny_bind (wpAny_holding (wpAny_mono h2 (fun a s1 h1 => wpAny_bind (wpAny_standAt ?_)) fun _ _ z => z))
  simp only [hpl, hkw, Bool.or_false]
  exact wpAny_bind (wpAny_pure (wpAny_bind (wpAny_mono h1 (fun r s2 hr => wpAny_bind (wpAny_holding (wpAny_point (wpAny_pure hr)))) fun _ _ z => z)))
theorem pi_enumS {X : Cx} {e : Expr} {kws : List Keyword} {ta tk : TA} {p pos tpos : Pos} {elts : List Expr} {kk : Nat} (hg : Gl X "enumerate") (hm : X.mg "enumerate" = none) (ha : PA X [e] ta) (hk : PK X kws tk)
    (he : backTo pos (starEach [e] X.env) = (false, eval e X.env) :: backTo pos (starEach [] X.env) := by rfl) (hpl : (backTo pos (starEach [e] X.env)).any (·.1) = false := by rfl)
    (hall : (backToKw pos (keywordEach kws X.env)).all (·.1.isSome) = true := by rfl) (hnone : (backToKw pos (keywordEach kws X.env)).any (·.1.isNone) = false := by rfl) (hks : (backToKw pos (keywordEach kws X.env)).filterMap (·.1) = [Str.ofString "start"] := by rfl) :
    PI X (.Tuple elts kk tpos) (.Call (.Name "enumerate" p) [e] kws pos) (iEnumS X.K ta tk) := by
  refine ⟨fun pns st σ H R I0 h => ?_⟩
  refine wpAny_Call_Name_kw (ld_blt I0 hg hm boot_enumerate ?_)
  refine callWith_tyKw (thn (ha.run pos pns st σ H _ I0 h) fun us s1 ⟨vs, H1, I1, r1, q1⟩ => thn (hk.run pos pns s1 σ H1 _ I1 q1) fun ws s2 ⟨zs, H2, I2, r2, q2⟩ => ?_) he hpl hall hnone
  rw [hks]
  obtain ⟨v, k0, e1, e2, h1, h2, q⟩ := q2
  subst e1 e2
  cases r1 with
  | cons r rr =>
    cases rr
    cases r2 with
    | cons z zz =>
      cases zz
      obtain ⟨tk0, rfl⟩ := z
      exact enum_made I2 r q fun ob Hs B h3 Q k => enum_begins_start B h3 h1 h2 fun h' a b _ d => k h' a b d
end Tb
end

section
set_option Elab.async false
set_option linter.all false
set_option maxRecDepth 100000
set_option maxHeartbeats 1000000
/-! Toss base 4: built-ins over data, comprehensions, defs. -/
namespace Tb
open PySem PySem.Spec PyProof.Rows L2 Evl

theorem bb_int : bootBuiltins "int" = some (.type "int") := by decide +kernel
theorem bb_bool : bootBuiltins "bool" = some (.type "bool") := by decide +kernel
theorem bb_str : bootBuiltins "str" = some (.type "str") := by decide +kernel
theorem bb_list : bootBuiltins "list" = some (.type "list") := by decide +kernel
theorem bb_tuple : bootBuiltins "tuple" = some (.type "tuple") := by decide +kernel
theorem bb_dict : bootBuiltins "dict" = some (.type "dict") := by decide +kernel
theorem bb_len : bootBuiltins "len" = some (.builtin "len") := by decide +kernel
theorem bb_max : bootBuiltins "max" = some (.builtin "max") := by decide +kernel
theorem bb_min : bootBuiltins "min" = some (.builtin "min") := by decide +kernel
theorem bb_abs : bootBuiltins "abs" = some (.builtin "abs") := by decide +kernel
theorem bb_sum : bootBuiltins "sum" = some (.builtin "sum") := by decide +kernel
theorem bb_isinstance : bootBuiltins "isinstance" = some (.builtin "isinstance") := by decide +kernel
/-- the built-in names that a module does not name anew -/
structure Bl (mg : Str → Option Value) : Prop where
  int : mg "int" = none
  bool : mg "bool" = none
  str : mg "str" = none
  list : mg "list" = none
  tuple : mg "tuple" = none
  dict : mg "dict" = none
  len : mg "len" = none
  max : mg "max" = none
  min : mg "min" = none
  isinstance : mg "isinstance" = none
  enumerate : mg "enumerate" = none
  reversed : mg "reversed" = none
  range : mg "range" = none

section
variable {K : PySem.W.Frag} {σ : L2.St} {H H' : Hp} {ta tb te tx tl : TE} {t u : TT} {d e z : PyData} {ds es : List PyData} {r : R2} {v : V}
/-! ### isinstance -/
def tyD : PyData → String
  | .none => "NoneType"
  | .bool _ => "bool"
  | .int _ => "int"
  | .str _ => "str"
  | .list _ => "list"
  | .tuple _ => "tuple"
  | .dict _ => "dict"
def isDi : PyData → Bool
  | .dict _ => true
  | _ => false
theorem tyx_of (h : Dq K H v d) (h0 : isDi d = false) : TyX K H v (.type (tyD d)) := by
  cases h with
  | dic _ _ _ => cases h0
  | non => exact .base .non
  | bl b => exact .base (.bl b)
  | int i => exact .base (.int i)
  | str x => exact .base (.str x)
  | lst h a =>
    rcases h with (h | ⟨o, h⟩) | ⟨o, its, n, hk, hc, _⟩
    · exact .base (.lst h)
    · exact .base (.frz h)
    · exact .kList hk hc
  | tup h a =>
    rcases h with (h | ⟨o, h⟩) | ⟨o, its, n, hk, hc, _⟩
    · exact .base (.tup h)
    · exact .fTuple h
    · exact .kTuple hk hc
theorem d_isi {c : String} {b : Bool} (h0 : isDi d = false) (h : EvD K te σ H d) (hb : kitB (tyD d) c = some b) : EvD K (tCB (rIsi K) (tCons te (tCons (tC (.ty c)) tNil))) σ H (.bool b) := fun H1 x Q q =>
  h H1 x _ fun v G H2 g hd => ⟨v, .ty c, _, _, b, rfl, .ty c, tyx_of (dp_mono g.g2 hd) h0, kit_ty hb, q _ G H2 g (.bl b)⟩
theorem d_isi2 {c1 c2 : String} {b1 b2 : Bool} (h0 : isDi d = false) (h : EvD K te σ H d) (h1 : kitB (tyD d) c1 = some b1) (h2 : kitB (tyD d) c2 = some b2) :
    EvD K (tCB (rIsiT K) (tCons te (tCons (tTup (tCons (tC (.ty c1)) (tCons (tC (.ty c2)) tNil))) tNil))) σ H (.bool (b1 || b2)) := fun H1 x Q q =>
  h H1 x _ fun v G H2 g hd => ⟨by show 2 ≤ sizeLine; decide, fun p hp => ⟨v, p, [.ty c1, .ty c2], _, [.type c1, .type c2], b1 || b2, rfl, upd_same, .cons (.ty c1) (.cons (.ty c2) .nil), tyx_of (dp_mono (g.g2.trans (Ex.new hp)) hd) h0,
    kitAny_cons (kit_ty h1) (fun z => by
      subst z
      exact kitAny_cons (kit_ty h2) (fun z => by
        subst z
        exact kitAny_nil) fun z => by rw [z]; rfl) (fun z => by rw [z]; rfl), q _ G _ (g.trans (Gr.mut g.g2 hp)) (.bl _)⟩⟩
theorem kit_int : kitB (tyD d) "int" = some (match d with | .int _ => true | .bool _ => true | _ => false) := by
  cases d
  · exact (show kitB "NoneType" "int" = some false by decide +kernel)
  · exact (show kitB "bool" "int" = some true by decide +kernel)
  · exact (show kitB "int" "int" = some true by decide +kernel)
  · exact (show kitB "str" "int" = some false by decide +kernel)
  · exact (show kitB "list" "int" = some false by decide +kernel)
  · exact (show kitB "tuple" "int" = some false by decide +kernel)
  · exact (show kitB "dict" "int" = some false by decide +kernel)
theorem kit_bool : kitB (tyD d) "bool" = some (match d with | .bool _ => true | _ => false) := by
  cases d
  · exact (show kitB "NoneType" "bool" = some false by decide +kernel)
  · exact (show kitB "bool" "bool" = some true by decide +kernel)
  · exact (show kitB "int" "bool" = some false by decide +kernel)
  · exact (show kitB "str" "bool" = some false by decide +kernel)
  · exact (show kitB "list" "bool" = some false by decide +kernel)
  · exact (show kitB "tuple" "bool" = some false by decide +kernel)
  · exact (show kitB "dict" "bool" = some false by decide +kernel)
theorem kit_str : kitB (tyD d) "str" = some (match d with | .str _ => true | _ => false) := by
  cases d
  · exact (show kitB "NoneType" "str" = some false by decide +kernel)
  · exact (show kitB "bool" "str" = some false by decide +kernel)
  · exact (show kitB "int" "str" = some false by decide +kernel)
  · exact (show kitB "str" "str" = some true by decide +kernel)
  · exact (show kitB "list" "str" = some false by decide +kernel)
  · exact (show kitB "tuple" "str" = some false by decide +kernel)
  · exact (show kitB "dict" "str" = some false by decide +kernel)
theorem kit_list : kitB (tyD d) "list" = some (match d with | .list _ => true | _ => false) := by
  cases d
  · exact (show kitB "NoneType" "list" = some false by decide +kernel)
  · exact (show kitB "bool" "list" = some false by decide +kernel)
  · exact (show kitB "int" "list" = some false by decide +kernel)
  · exact (show kitB "str" "list" = some false by decide +kernel)
  · exact (show kitB "list" "list" = some true by decide +kernel)
  · exact (show kitB "tuple" "list" = some false by decide +kernel)
  · exact (show kitB "dict" "list" = some false by decide +kernel)
theorem kit_tuple : kitB (tyD d) "tuple" = some (match d with | .tuple _ => true | _ => false) := by
  cases d
  · exact (show kitB "NoneType" "tuple" = some false by decide +kernel)
  · exact (show kitB "bool" "tuple" = some false by decide +kernel)
  · exact (show kitB "int" "tuple" = some false by decide +kernel)
  · exact (show kitB "str" "tuple" = some false by decide +kernel)
  · exact (show kitB "list" "tuple" = some false by decide +kernel)
  · exact (show kitB "tuple" "tuple" = some true by decide +kernel)
  · exact (show kitB "dict" "tuple" = some false by decide +kernel)

/-! ### len, an item, list, tuple, max, min -/
theorem rcd_len {b : Bool} : RCD K (fun xs H Q => ∃ p ys, xs = [V.ref p] ∧ (SqL K H p ys ∨ SqT K H p ys) ∧ Q (.int ys.length) H) [rows b ds] H (.int ds.length) := fun vs H1 x hd Q q => by
  cases hd with
  | cons h h0 =>
    cases h0
    obtain ⟨a, xs, rfl, hr, ha⟩ := row_of h
    refine ⟨a, xs, rfl, row_mono x hr, ?_⟩
    rw [ha.length]
    exact q _ H H1 (.refl x) (.int _)
theorem at_dp {xs : List V} {i : Int} (h : DqAll K H xs ds) (ha : atI ds i = some e) : ∃ v, atI xs i = some v ∧ Dq K H v e := by
  unfold atI at ha ⊢
  rw [h.length]
  cases q : ixN ds.length i with
  | none =>
    rw [q] at ha
    cases ha
  | some j =>
    rw [q] at ha
    exact h.get' ha
/-- an item of a row -/
def rIxR (K : PySem.W.Frag) : R2 := fun x y H Q => rIxL K x y H Q ∨ rIxT K x y H Q
theorem ix_row {X : Cx} : IxR X (rIxR X.K) := ix_list.or ix_tup
theorem rd_ix {b : Bool} {i : Int} (ha : atI ds i = some e) : RD K (rIxR K) (rows b ds) (.int i) H e := fun x y H1 ex hx hy Q q => by
  obtain ⟨a, xs, rfl, hr, hd⟩ := row_of hx
  obtain ⟨w, h1, h2⟩ := at_dp hd ha
  have hy := hy.int_of
  subst hy
  rcases hr with hr | hr
  · exact .inl ⟨a, xs, i, w, rfl, rfl, ex_l ex hr, h1, q _ H H1 (.refl ex) h2⟩
  · exact .inr ⟨a, xs, i, w, rfl, rfl, ex_t ex hr, h1, q _ H H1 (.refl ex) h2⟩
theorem rcd_tuple {b : Bool} (hn : towerish ds = false) : RCD K (fun xs H Q => ∃ p ys, xs = [V.ref p] ∧ ((SqL K H p ys ∧ ∀ l, H l = none → Q (.ref l) (upd H l (.tup ys))) ∨ (SqT K H p ys ∧ Q (.ref p) H))) [rows b ds] H (.tuple ds) := fun vs H1 x hd Q q => by
  cases hd with
  | cons h h0 =>
    cases h0
    cases b with
    | true =>
      obtain ⟨a, xs, rfl, hr, ha⟩ := Dq.lst_of (show Dq K H _ (.list ds) from h)
      exact ⟨a, xs, rfl, .inl ⟨ex_l x hr, fun l hl => q _ _ _ (Gr.new x hl) (.tupN (st_of upd_same) (dpa_mono (Ex.new (fresh_back x hl)) ha) hn)⟩⟩
    | false =>
      obtain ⟨a, xs, rfl, hr, ha⟩ := Dq.tup_of (show Dq K H _ (.tuple ds) from h)
      exact ⟨a, xs, rfl, .inr ⟨ex_t x hr, q _ H H1 (.refl x) (.tupN hr ha hn)⟩⟩
theorem rcdl_list {b : Bool} : RCDL K (fun xs H Q => ∃ p ys, xs = [V.ref p] ∧ (SqL K H p ys ∨ SqT K H p ys) ∧ ∀ l, H l = none → Q (.ref l) (upd H l (.lst ys))) [rows b ds] H ds := fun vs H1 x hd Q q => by
  cases hd with
  | cons h h0 =>
    cases h0
    obtain ⟨a, xs, rfl, hr, ha⟩ := row_of h
    exact ⟨a, xs, rfl, row_mono x hr, fun l hl => q l xs H _ (fresh_back x hl) hl (Gr.mut x hl) upd_same ha⟩
theorem rcd_min2 {i j : Int} : RCD K (fun xs H Q => ∃ i j, xs = [V.int i, .int j] ∧ Q (.int (if j < i then j else i)) H) [.int i, .int j] H (.int (min i j)) := fun vs H1 x hd Q q => by
  have hv := DqAll.ints (ns := [i, j]) hd
  refine ⟨i, j, hv, ?_⟩
  rw [show (if j < i then j else i) = min i j by split <;> omega]
  exact q _ H H1 (.refl x) (.int _)
theorem rcd_max2 {i j : Int} : RCD K (fun xs H Q => ∃ i j, xs = [V.int i, .int j] ∧ Q (.int (if j > i then j else i)) H) [.int i, .int j] H (.int (max i j)) := fun vs H1 x hd Q q => by
  have hv := DqAll.ints (ns := [i, j]) hd
  refine ⟨i, j, hv, ?_⟩
  rw [show (if j > i then j else i) = max i j by split <;> omega]
  exact q _ H H1 (.refl x) (.int _)
theorem rcd_int1 {i : Int} : RCD K (fun xs H Q => (∃ i, xs = [V.int i] ∧ Q (.int i) H) ∨ ∃ k, xs = [V.bl k] ∧ Q (.int (if k then 1 else 0)) H) [.int i] H (.int i) := fun vs H1 x hd Q q => .inl ⟨i, DqAll.ints (ns := [i]) hd, q _ H H1 (.refl x) (.int _)⟩
theorem rcd_intB {b : Bool} : RCD K (fun xs H Q => (∃ i, xs = [V.int i] ∧ Q (.int i) H) ∨ ∃ k, xs = [V.bl k] ∧ Q (.int (if k then 1 else 0)) H) [.bool b] H (.int (if b then 1 else 0)) := fun vs H1 x hd Q q => by
  cases hd with
  | cons h h0 =>
    cases h0
    rw [h.bl_of]
    exact .inr ⟨b, rfl, q _ H H1 (.refl x) (.int _)⟩
end
/-- the greatest of some ints, d where there are none -/
def maxOf (d : Int) : List Int → Int
  | [] => d
  | n :: ns => ns.foldl max n
def rMaxDf (K : PySem.W.Frag) : List V → List V → Hp → VK → Prop := fun vs zs H Q => ∃ a ns d0, vs = [.ref a] ∧ zs = [.int d0] ∧ SqT K H a (ns.map V.int) ∧ Q (.int (maxOf d0 ns)) H
theorem alike_ints (ns : List Int) : PySem.W.AlikeAll (ns.map .int) := by
  refine ⟨fun x hx y hy => ?_, fun x hx => ?_⟩
  · obtain ⟨i, _, rfl⟩ := List.mem_map.mp hx
    obtain ⟨j, _, rfl⟩ := List.mem_map.mp hy
    rfl
  · obtain ⟨i, _, rfl⟩ := List.mem_map.mp hx
    exact fun z => nomatch z
theorem depth_ints : ∀ ns : List Int, PyData.depthAll (ns.map .int) ≤ 1
  | [] => by simp [PyData.depthAll]
  | n :: ns => by
    have h := depth_ints ns
    simp only [List.map_cons, PyData.depthAll, PyData.depth]
    omega
theorem cr_maxDf {X : Cx} (hc : X.calm = true) (hu : X.A.units + 64 < cLine) : CallRK X (.builtin "max") [Str.ofString "default"] (rMaxDf X.K) := by
  intro pns st σ H vs zs us ws Q I r r2 h
  obtain ⟨a, ns, d0, rfl, rfl, hs, q⟩ := h
  obtain ⟨its, rv, ht, _⟩ := I.tuple hs
  obtain ⟨as, hr⟩ := Dp.readsAll I (ns.map .int) _ its (DpAll.of_ints ns) rv
  rw [Vals.ref1 r]
  cases r2 with
  | cons z zz =>
    cases zz
    obtain ⟨tk0, rfl⟩ := z
    have hd := depth_ints ns
    refine PySem.W.max_tuple_default (I.ok.hd hc) (show st.heap.IsTuple a its.toArray from ht) (by simpa using hr) (alike_ints ns) (by omega) (fun h0 h' tk hk => ?_) fun y ys i v h' tk bs hy hv hr' hk => ?_
    · cases ns with
      | nil => exact ⟨.int d0, H, I.kept hk, ⟨_, rfl⟩, q⟩
      | cons n ns => cases h0
    · cases ns with
      | nil => cases hy
      | cons n ns =>
        rw [List.map_cons] at hy
        injection hy with e1 e2
        subst e1 e2
        rw [PySem.W.maxD_ints] at hr'
        cases hr' with
        | int _ t => exact ⟨.int _, H, I.kept hk, ⟨_, rfl⟩, q⟩
section
variable {K : PySem.W.Frag} {σ : L2.St} {H H' : Hp} {te tx tl : TE} {t : TT} {d e z : PyData} {ds es : List PyData} {g : TG} {vs : List Nat}
theorem d_maxDf {ns : List Int} {d0 : Int} (h : EvD K te σ H (.tuple (ns.map .int))) : EvD K (tCKw (rMaxDf K) (tCons te tNil) (tCons (tC (.int d0)) tNil)) σ H (.int (maxOf d0 ns)) := fun H1 x Q q =>
  h H1 x _ fun v G H2 g hd => by
    obtain ⟨a, xs, rfl, hs, ha⟩ := Dq.tup_of hd
    rw [ha.ints] at hs
    exact ⟨a, ns, d0, rfl, rfl, ex_t g.g2 hs, q _ G H2 g (.int _)⟩

/-! ### comprehensions over a row -/
theorem dl_lc {b : Bool} (f : PyData → Option PyData) (h : EvD K tl σ H (rows b ds)) (hl : ds.length ≤ 40000)
    (hb : ∀ (d : PyData), d ∈ ds → ∀ (x : V) (G H' : Hp), Ex H G → Ex G H' → Dq K G x d → ∀ Q : L2.St → Hp → Prop, (∀ σ2, wipe σ2 vs = wipe σ vs → EvT t σ2 G (f d).isSome → (∀ e, f d = some e → EvD K te σ2 G e) → Q σ2 H') → g x (wipe σ vs) H' Q) :
    EvDL K (tLc (iRow K tl) g t te vs) σ H (ds.filterMap f) := fun H1 x Q q => h H1 x _ fun v G1 H2 g1 hd => by
  obtain ⟨a, xs, rfl, hr, ha⟩ := row_of hd
  have hxl := ha.length
  -- the word: what is known for good grows, the list at D stands apart
  let Pv : Addr → Nat → Hp → Prop := fun Dl i H' => ∃ G ys, G Dl = none ∧ Gr G1 H2 G H' ∧ H' Dl = some (.lst ys) ∧ DqAll K G ys ((ds.take i).filterMap f)
  have h0 : ∀ Dl, H2 Dl = none → Pv Dl 0 (upd H2 Dl (.lst [])) := fun Dl hD => ⟨G1, [], fresh_back g1.g2 hD, Gr.mut g1.g2 hD, upd_same, by simpa using DqAll.nil⟩
  have fin : ∀ Dl, H2 Dl = none → ∀ H', Pv Dl ds.length H' → Q (.ref Dl) H' := fun Dl hD H' ⟨G, ys, a1, a2, a3, a4⟩ => by
    rw [List.take_length] at a4
    exact q Dl ys G H' a1 (fresh_back g1.h12 hD) (g1.trans a2) a3 a4
  have turn : ∀ Dl, H2 Dl = none → ∀ i y H', xs[i]? = some y → Pv Dl i H' → g y (wipe σ vs) H' fun σ2 H2' => wipe σ2 vs = wipe σ vs ∧ t σ2 H2' fun b H3 =>
      if b = true then te σ2 H3 fun w H4 => ∃ acc, H4 Dl = some (.lst acc) ∧ acc.length < sizeLine ∧ Pv Dl (i + 1) (upd H4 Dl (.lst (acc ++ [w]))) else Pv Dl (i + 1) H3 := fun Dl hD i y H' hy p => by
    obtain ⟨G, ys, a1, a2, a3, a4⟩ := p
    obtain ⟨d, hdi, hdy⟩ := ha.get hy
    have hmem : d ∈ ds := List.mem_of_getElem? hdi
    have hi : i < ds.length := (List.getElem?_eq_some_iff.mp hdi).1
    refine hb d hmem y G H' (g1.hg.trans a2.hg) a2.g2 (dp_mono a2.hg hdy) _ fun σ2 hw ht he => ⟨hw, ht H' a2.g2 _ fun H3 e3 => ?_⟩
    have htk : (ds.take (i + 1)).filterMap f = (ds.take i).filterMap f ++ (f d).toList := by
      rw [List.take_add_one, hdi, List.filterMap_append]
      cases hf : f d <;> simp [hf]
    cases hf : f d with
    | none =>
      show Pv Dl (i + 1) H3
      refine ⟨G, ys, a1, ⟨a2.hg, a2.g2.trans e3, a2.h12.trans e3, a2.sep⟩, e3 _ _ a3, ?_⟩
      rw [htk, hf]
      simpa using a4
    | some e =>
      show te σ2 H3 fun w H4 => ∃ acc, H4 Dl = some (.lst acc) ∧ acc.length < sizeLine ∧ Pv Dl (i + 1) (upd H4 Dl (.lst (acc ++ [w])))
      refine he e hf H3 (a2.g2.trans e3) _ fun w G4 H4 g4 hw4 => ?_
      have hD4 : H4 Dl = some (.lst ys) := g4.h12 _ _ (e3 _ _ a3)
      have hG4 : G4 Dl = none := g4.sep Dl a1 (by rw [e3 _ _ a3]; exact fun z => nomatch z)
      have hlen : ys.length ≤ 40000 := by
        rw [a4.length]
        exact Nat.le_trans (List.length_filterMap_le _ _) (by rw [List.length_take]; omega)
      refine ⟨ys, hD4, sz_lt (by omega), G4, ys ++ [w], hG4, ⟨a2.hg.trans g4.hg, fun b u hu => ?_, Ex.mut ((a2.h12.trans e3).trans g4.h12) hD, fun b h1 h2 => ?_⟩, upd_same, ?_⟩
      · rw [upd_ne (ne_of_none hu hG4)]
        exact g4.g2 b u hu
      · refine g4.sep b (a2.sep b h1 h2) fun z => ?_
        cases q2 : H2 b with
        | none => exact h2 q2
        | some o =>
          rw [(a2.h12.trans e3) b o q2] at z
          cases z
      · rw [htk, hf]
        exact (dpa_mono g4.hg a4).append (.one hw4)
  have Gstay : ∀ Dl i H', Pv Dl i H' → Ex G1 H' := fun Dl i H' ⟨G, ys, _, a2, _⟩ => a2.hg.trans a2.g2
  refine ⟨a, rfl, ?_⟩
  rcases hr with hr | hr
  · exact .inl ⟨⟨xs, ex_l g1.g2 hr⟩, fun Dl hD => lc_list (xs := xs) (Pv Dl) (h0 Dl hD) (fun i H' _ p => ex_l (Gstay Dl i H' p) hr) (turn Dl hD) (by rw [hxl]; exact fin Dl hD)⟩
  · exact .inr ⟨⟨xs, ex_t g1.g2 hr⟩, fun Dl hD => lc_tup (xs := xs) (Pv Dl) (h0 Dl hD) (fun i H' _ p => ex_t (Gstay Dl i H' p) hr) (turn Dl hD) (by rw [hxl]; exact fin Dl hD)⟩
theorem et_yes : EvT tYes σ H true := fun H1 _ _ q => q H1 (Ex.refl H1)
end

/-! ### a def by its body -/
theorem has_mk {P : Program} {w : World} {K : PySem.W.Frag} {mg : Str → Option Value} {base : Heap} {CX : CXT} {x qual : Str} {st : Stmt} {f : Addr} {fd : FuncData} {k : Nat} {N ps : List Str} {sp : Sp}
    (F : FunD K x qual (defArgs st) (defBody st) (defScope st) [] [] f fd) (hm : mg x = some (.ref f)) (S : FnScope N ps (defScope st)) (len : ∀ vs H Q E, sp vs H Q E → vs.length = ps.length)
    (h : ∀ (kV doc pm : Value) (an : Option Addr) (cdv ct : Value) (us : List Value), us.length = ps.length → bindArgs (PySem.W.fnOf x qual (defArgs st) (defBody st) (defScope st) .none kV doc pm an cdv ct) ⟨us, []⟩ = pure (ps.zip us))
    (body : ∀ (cdv : Value) (A : Around) (outer : List Env) (s : Shared) (H : Hp) (vs : List V) (Q : VK) (E : XK), Room k (A.deeper (envOfC qual (defScope st) s.heap.objs.size f cdv)) → sp vs H Q E →
      ∃ t, PSs (cxOf CX P w K mg base N qual (defScope st) f cdv A outer s H E).nox (defBody st) t ∧ t { nx := fun _ H' => Q .non H', rt := Q } (start N vs) H) :
    Has P w K mg base CX x (k + 1) ps [] sp :=
  has_of F hm (F.ok S len fun cdv A outer s H vs Q E hr hs => by
    obtain ⟨t, h1, h2⟩ := body cdv A outer s H vs Q E hr hs
    exact ⟨t, h1.nox, h2⟩) h
end Tb
end

section
set_option Elab.async false
set_option linter.all false
set_option maxRecDepth 100000
set_option maxHeartbeats 1000000
/-! Toss base 5: pairs unpacked, loops over enumerate, reversed, range. -/
namespace Tb
open PySem PySem.Spec PyProof.Rows L2 Evl

section
variable {K : PySem.W.Frag} {σ : L2.St} {B H H' : Hp} {ta tb te tx : TE} {t u : TT} {d e z : PyData} {ds es : List PyData} {D : Ends} {tu tw tz : TS} {g : TG} {b : Bool} {v : V}
theorem t_test {c : Bool} (h : EvD K te σ H (.bool c)) : EvT (tTest te) σ H c := fun H1 x Q q => h H1 x _ fun v G H2 g h2 => ⟨c, h2.bl_of, q H2 g.h12⟩
/-- (i, j) = a pair that B knows -/
theorem g_pairB {i j : Nat} {Q : L2.St → Hp → Prop} (x : Ex B H) (h : Dq K B v (rows b [d, e])) (k : ∀ y w, Dq K B y d → Dq K B w e → Q ((σ.set i (some y)).set j (some w)) H) : gRow K 2 (gCons (gName i) (gCons (gName j) gNil)) v σ H Q := by
  obtain ⟨a, xs, e1, hr, ha⟩ := row_of h
  cases ha with
  | cons h1 a1 =>
    cases a1 with
    | cons h2 a2 =>
      cases a2
      exact ⟨a, _, e1, row_mono x hr, rfl, _, _, rfl, _, _, rfl, rfl, k _ _ h1 h2⟩
theorem qd_pair {i j : Nat} (x : Ex B H) (h : EvD K te σ B (rows b [d, e])) (k : ∀ y w G H1, Gr B H G H1 → Dq K G y d → Dq K G w e → tz D ((σ.set i (some y)).set j (some w)) H1) :
    tSeq (tAsg te (gRow K 2 (gCons (gName i) (gCons (gName j) gNil)))) tz D σ H := h H x _ fun v G H1 g hd => g_pairB g.g2 hd fun y w hy hw => k y w G H1 g hy hw

/-! ### for i, x in enumerate(row, k0) -/
theorem walk_enumL {a : Addr} {k0 : Int} {xs : List V} : Walk (IteL K a k0) xs.length (fun H => SqL K H a xs) (fun i H v H' => ∃ T x, v = .ref T ∧ H T = none ∧ H' = upd H T (.tup [.int (k0 + (i : Nat)), x]) ∧ xs[i]? = some x) :=
  ⟨fun i _ hi q => ⟨xs, xs[i], q, by simp [hi]⟩, fun _ q => ⟨xs, q, rfl⟩, fun i H v H' _ q y => by
    obtain ⟨T, x, h1, h2, h3, h4⟩ := y
    exact ⟨T, x, h1, h2, h3, h4 xs q⟩⟩
theorem walk_enumT {a : Addr} {k0 : Int} {xs : List V} : Walk (IteT K a k0) xs.length (fun H => SqT K H a xs) (fun i H v H' => ∃ T x, v = .ref T ∧ H T = none ∧ H' = upd H T (.tup [.int (k0 + (i : Nat)), x]) ∧ xs[i]? = some x) :=
  ⟨fun i _ hi q => ⟨xs, xs[i], q, by simp [hi]⟩, fun _ q => ⟨xs, q, rfl⟩, fun i H v H' _ q y => by
    obtain ⟨T, x, h1, h2, h3, h4⟩ := y
    exact ⟨T, x, h1, h2, h3, h4 xs q⟩⟩
theorem for_enum {k0 : Int} {a c : Nat} (hd : Dq K B v (rows b ds)) (Pv : Nat → L2.St → Hp → Prop) (h0 : Pv 0 σ H) (e : Ex B H) (hG : ∀ i σ' H', i ≤ ds.length → Pv i σ' H' → Ex B H')
    (hs : ∀ (i : Nat) d x σ' H' H2, ds[i]? = some d → Dq K B x d → Pv i σ' H' → Ex H' H2 → tu { D with nx := Pv (i + 1), ct := Pv (i + 1), bk := D.nx } ((σ'.set a (some (.int (k0 + (i : Int))))).set c (some x)) H2)
    (hn : ∀ σ' H', Pv ds.length σ' H' → D.nx σ' H') :
    rEnum K k0 (fun J H1 => ∃ W : Nat → Nat → L2.St → Hp → Prop, (∃ m, W 0 m σ H1) ∧ ∀ i m σ H, W i m σ H → (J.stop i H ∧ D.nx σ H) ∨ (J.go i H ∧ ∃ N : L2.St → Hp → Prop, (∀ σ' H', N σ' H' → ∃ m', m' < m ∧ W (i + 1) m' σ' H') ∧
      ∀ x H', J.yld i H x H' → gRow K 2 (gCons (gName a) (gCons (gName c) gNil)) x σ H' fun σ2 H2 => tu { D with nx := N, ct := N, bk := D.nx } σ2 H2)) v H := by
  obtain ⟨ad, xs, rfl, hr, ha⟩ := row_of hd
  have hl := ha.length
  have turn : ∀ (i : Nat) (y : V) (σ' : L2.St) (H1 H1' : Hp), i < xs.length → Pv i σ' H1 → (∃ T x, y = .ref T ∧ H1 T = none ∧ H1' = upd H1 T (.tup [.int (k0 + (i : Nat)), x]) ∧ xs[i]? = some x) →
      gRow K 2 (gCons (gName a) (gCons (gName c) gNil)) y σ' H1' fun σ2 H2 => tu { D with nx := Pv (i + 1), ct := Pv (i + 1), bk := D.nx } σ2 H2 := by
    rintro i y σ' H1 H1' hi p ⟨T, x, rfl, hT, rfl, hx⟩
    obtain ⟨d, h1, h2⟩ := ha.get hx
    exact ⟨T, [.int (k0 + (i : Nat)), x], rfl, .inr (st_of upd_same), rfl, _, _, rfl, _, _, rfl, rfl, hs i d x σ' H1 _ h1 h2 p (Ex.new hT)⟩
  refine ⟨ad, rfl, ?_⟩
  rcases hr with hr | hr
  · exact .inl ⟨⟨xs, ex_l e hr⟩, for_it walk_enumL Pv h0 (fun i σ' H' hi p => ex_l (hG i σ' H' (by omega) p) hr) turn (by rw [hl]; exact hn)⟩
  · exact .inr ⟨⟨xs, ex_t e hr⟩, for_it walk_enumT Pv h0 (fun i σ' H' hi p => ex_t (hG i σ' H' (by omega) p) hr) turn (by rw [hl]; exact hn)⟩
/-- over a row at the j-th slot -/
theorem sd_forE {j a c : Nat} (e : Ex B H) (hd : Dq K B v (rows b ds)) (hv : σ[j]? = some (some v)) (Pv : Nat → L2.St → Hp → Prop) (h0 : Pv 0 σ H) (hG : ∀ i σ' H', i ≤ ds.length → Pv i σ' H' → Ex B H')
    (hs : ∀ (i : Nat) d x σ' H' H2, ds[i]? = some d → Dq K B x d → Pv i σ' H' → Ex H' H2 → tu { D with nx := Pv (i + 1), ct := Pv (i + 1), bk := D.nx } ((σ'.set a (some (.int (0 + (i : Int))))).set c (some x)) H2)
    (hn : ∀ σ' H', Pv ds.length σ' H' → D.nx σ' H') : tFor (iEnumR K (tCons (tVar j) tNil)) (gRow K 2 (gCons (gName a) (gCons (gName c) gNil))) tu D σ H :=
  ⟨_, hv, _, rfl, for_enum hd Pv h0 e hG hs hn⟩
theorem qd_forE {j a c : Nat} (e : Ex B H) (hd : Dq K B v (rows b ds)) (hv : σ[j]? = some (some v)) (Pv : Nat → L2.St → Hp → Prop) (h0 : Pv 0 σ H) (hG : ∀ i σ' H', i ≤ ds.length → Pv i σ' H' → Ex B H')
    (hs : ∀ (i : Nat) d x σ' H' H2, ds[i]? = some d → Dq K B x d → Pv i σ' H' → Ex H' H2 → tu { D with nx := Pv (i + 1), ct := Pv (i + 1), bk := tz D } ((σ'.set a (some (.int (0 + (i : Int))))).set c (some x)) H2)
    (hn : ∀ σ' H', Pv ds.length σ' H' → tz D σ' H') : tSeq (tFor (iEnumR K (tCons (tVar j) tNil)) (gRow K 2 (gCons (gName a) (gCons (gName c) gNil))) tu) tz D σ H := sd_forE (D := { D with nx := tz D }) e hd hv Pv h0 hG hs hn
end
end Tb
end

section
set_option Elab.async false
set_option linter.all false
set_option maxRecDepth 100000
set_option maxHeartbeats 1000000
/-! Toss towers: towers as data, comprehensions and loops over them; defs with a default. -/
namespace Tb
open PySem PySem.Spec PyProof.Rows L2 Evl

abbrev Tw := List (Int × Int)
def prD (c : Bool) (p : Int × Int) : PyData := rows c [.int p.1, .int p.2]
/-- towers as data: a row (b: a list) of pairs (c: lists) -/
def twD (b c : Bool) (ts : Tw) : PyData := rows b (ts.map (prD c))
section
variable {K : PySem.W.Frag} {σ : L2.St} {B H H' : Hp} {ta tb te tx tl : TE} {t u : TT} {d e z : PyData} {ds es : List PyData} {D : Ends} {tu tw tz : TS} {b c : Bool} {v : V} {ts : Tw} {i j : Nat} {vs : List Nat}
theorem lc_tw (f : Int × Int → Option PyData) (h : EvD K tl σ B (twD b c ts)) (hl : ts.length ≤ 40000) (hv : ∀ y w, wipe (((wipe σ vs).set i (some y)).set j (some w)) vs = wipe σ vs)
    (ht : ∀ p ∈ ts, ∀ G, Ex B G → EvT t (((wipe σ vs).set i (some (.int p.1))).set j (some (.int p.2))) G (f p).isSome)
    (he : ∀ p ∈ ts, ∀ e, f p = some e → ∀ G, Ex B G → EvD K te (((wipe σ vs).set i (some (.int p.1))).set j (some (.int p.2))) G e) :
    EvDL K (tLc (iRow K tl) (gRow K 2 (gCons (gName i) (gCons (gName j) gNil))) t te vs) σ B (ts.filterMap f) := by
  let f' : PyData → Option PyData := fun d => match d with
    | .list [.int k, .int h] => f (k, h)
    | .tuple [.int k, .int h] => f (k, h)
    | _ => none
  have hf : ∀ p, f' (prD c p) = f p := fun p => by cases c <;> rfl
  have e1 : (ts.map (prD c)).filterMap f' = ts.filterMap f := by
    rw [List.filterMap_map]
    congr 1
    funext p
    exact hf p
  rw [← e1]
  refine dl_lc f' h (by rw [List.length_map]; exact hl) fun d hd x G H' eG e2 hx Q k => ?_
  obtain ⟨p, hp, rfl⟩ := List.mem_map.mp hd
  refine g_pairB e2 hx fun y w hy hw => ?_
  rw [hy.int_of, hw.int_of]
  refine k _ (hv _ _) ?_ fun e he' => ?_
  · rw [hf p]
    exact ht p hp G eG
  · rw [hf p] at he'
    exact he p hp e he' G eG
/-- for a, c in towers (at the l-th slot) -/
theorem sd_forTw {l : Nat} (e : Ex B H) (hd : Dq K B v (twD b c ts)) (hv : σ[l]? = some (some v)) (Pv : Nat → L2.St → Hp → Prop) (h0 : Pv 0 σ H) (hG : ∀ n σ' H', n ≤ ts.length → Pv n σ' H' → Ex B H')
    (hs : ∀ n p σ' H', ts[n]? = some p → Pv n σ' H' → tu { D with nx := Pv (n + 1), ct := Pv (n + 1), bk := D.nx } ((σ'.set i (some (.int p.1))).set j (some (.int p.2))) H')
    (hn : ∀ σ' H', Pv ts.length σ' H' → D.nx σ' H') : tFor (iRow K (tVar l)) (gRow K 2 (gCons (gName i) (gCons (gName j) gNil))) tu D σ H := by
  have hl : (ts.map (prD c)).length = ts.length := List.length_map ..
  refine sd_for e hd hv Pv h0 (fun n σ' H' hi p => hG n σ' H' (by omega) p) (fun n d x σ' H' hi hx p => ?_) (by rw [hl]; exact hn)
  rw [List.getElem?_map] at hi
  cases hq : ts[n]? with
  | none =>
    rw [hq] at hi
    cases hi
  | some q =>
    rw [hq] at hi
    cases hi
    refine g_pairB (hG n σ' H' (by have := (List.getElem?_eq_some_iff.mp hq).1; omega) p) hx fun y w hy hw => ?_
    rw [hy.int_of, hw.int_of]
    exact hs n q σ' H' hq p
theorem qd_forTw {l : Nat} (e : Ex B H) (hd : Dq K B v (twD b c ts)) (hv : σ[l]? = some (some v)) (Pv : Nat → L2.St → Hp → Prop) (h0 : Pv 0 σ H) (hG : ∀ n σ' H', n ≤ ts.length → Pv n σ' H' → Ex B H')
    (hs : ∀ n p σ' H', ts[n]? = some p → Pv n σ' H' → tu { D with nx := Pv (n + 1), ct := Pv (n + 1), bk := tz D } ((σ'.set i (some (.int p.1))).set j (some (.int p.2))) H')
    (hn : ∀ σ' H', Pv ts.length σ' H' → tz D σ' H') : tSeq (tFor (iRow K (tVar l)) (gRow K 2 (gCons (gName i) (gCons (gName j) gNil))) tu) tz D σ H := sd_forTw (D := { D with nx := tz D }) e hd hv Pv h0 hG hs hn
theorem sp_PD {n : Nat} {R : List PyData → PyData → Prop} {dvs : List V} {dds : List PyData} (hv : ∀ H, DqAll K H dvs dds) (hn : (ds ++ dds).length = n) (h : R (ds ++ dds) z) : SpD K (spP K n R) dvs ds z :=
  fun vs H H1 x hd Q E q => ⟨H, ds ++ dds, z, x, hn, hd.append (hv H), h, q⟩
end
/-- if c: a call whose value is dropped -/
theorem qd_ifdrop {K : PySem.W.Frag} {σ : L2.St} {B H : Hp} {te : TE} {t : TT} {d : PyData} {D : Ends} {tz : TS} {c : Bool} (x : Ex B H) (h : EvT t σ B c) (h1 : c = true → EvD K te σ B d) (k : ∀ H1, Ex H H1 → tz D σ H1) : tSeq (tIfS t (tDrop te) tNext) tz D σ H :=
  qd_when x h (fun hc H1 e1 => sd_drop (x.trans e1) (h1 hc) fun H2 e2 => k H2 (e1.trans e2)) fun _ H1 e1 => k H1 e1
/-- a def whose last parameter has a default -/
theorem has_mkD {P : Program} {w : World} {K : PySem.W.Frag} {mg : Str → Option Value} {base : Heap} {CX : CXT} {x qual : Str} {st : Stmt} {f : Addr} {fd : FuncData} {k n : Nat} {N ps : List Str} {dvs : List V} {sp : Sp}
    (F : FunD K x qual (defArgs st) (defBody st) (defScope st) dvs [] f fd) (hm : mg x = some (.ref f)) (S : FnScope N ps (defScope st)) (len : ∀ vs H Q E, sp vs H Q E → vs.length = ps.length) (hd : dvs ≠ []) (hn : n + dvs.length = ps.length)
    (h : ∀ (T : Addr) (kV doc pm : Value) (an : Option Addr) (cdv ct : Value) (us its : List Value), us.length = n → its.length = dvs.length →
      ∃ k, bindArgs (PySem.W.fnOf x qual (defArgs st) (defBody st) (defScope st) (.ref T) kV doc pm an cdv ct) ⟨us, []⟩ = seqItems? (.ref T) >>= k ∧ k (some its.toArray) = pure (ps.zip (us ++ its)))
    (body : ∀ (cdv : Value) (A : Around) (outer : List Env) (s : Shared) (H : Hp) (vs : List V) (Q : VK) (E : XK), Room k (A.deeper (envOfC qual (defScope st) s.heap.objs.size f cdv)) → sp vs H Q E →
      ∃ t, PSs (cxOf CX P w K mg base N qual (defScope st) f cdv A outer s H E).nox (defBody st) t ∧ t { nx := fun _ H' => Q .non H', rt := Q } (start N vs) H) :
    Has P w K mg base CX x (k + 1) ps dvs sp := by
  obtain ⟨ds, hv, hb⟩ := F.binds1 n 0 hd (by simpa using hn) h
  refine ⟨f, fd, ds, F.ok S len fun cdv A outer s H vs Q E hr hs => ?_, hm, F.kp, hv, hb⟩
  obtain ⟨t, h1, h2⟩ := body cdv A outer s H vs Q E hr hs
  exact ⟨t, h1.nox, h2⟩
end Tb
end

section
set_option Elab.async false
set_option linter.all false
set_option maxRecDepth 100000
set_option maxHeartbeats 1000000
/-! Toss base 6: xs[:b] = ys. -/
namespace Tb
open PySem PySem.Spec PyProof.Rows L2 Evl

theorem bounds_head {c n : Nat} (hc : c ≤ n) : sliceBounds none (some (c : Int)) none n = ((0 : Int), (c : Int), 1) := by
  have h2 : ¬ ((c : Int) < 0) := by omega
  simp only [sliceBounds, Option.getD_none, h2, if_false, show (1 : Int) > 0 by decide, if_true]
  congr 1
  congr 1
  omega
/-- the machine's list store at a slice that begins at the list's begin -/
theorem set_head_raw {prog : Program} {w : World} {A : Around} {E : Value → Shared → Prop} {st : Shared} {l b sl : Addr} {its new : Array Value} {n n2 : Nat} {vu : Value} {c : Nat} {Q : Unit → Shared → Prop}
    (hl0 : st.heap.get? l = some { cls := .type "list", data := .seq its n }) (hb0 : st.heap.get? b = some { cls := .type "list", data := .seq new n2 }) (hne : l ≠ b) (hs : st.heap.IsSliceOf sl .none vu .none) (pu : IsPart vu (some (c : Int))) (hc : c ≤ its.size)
    (hsz : its.size + new.size ≤ sizeLine) (k : Q () { st with heap := st.heap.update l (Obj.mapSeq fun xs => xs.extract 0 0 ++ new ++ xs.extract c xs.size) }) :
    wpAny (model prog w) A (setItem (.ref l) (.ref sl) (.ref b)) Q E st := by
  have hl := PySem.IsL.isList hl0
  have hb := PySem.IsL.isList hb0
  obtain ⟨so, h1, h2, h3⟩ := id hs
  have tS : st.TypeIs (.ref sl) "slice" := ⟨so, h1, h2⟩
  have apart : Builtin.List.listSameRef (.ref l) (.ref b) = false := beq_eq_false_iff_ne.mpr hne
  have mx : (max (0 : Int) (c : Int)).toNat = c := by omega
  have z2 : ((fun xs : Array Value => xs.extract 0 0 ++ new ++ xs.extract c xs.size) its).size ≤ sizeLine + 1 := by simp only [Array.size_append, Array.size_extract]; omega
  unfold setItem
  try with_reducible refine wpAny_holding ?_
  refine wpAny_bind (wpAny_sequenceKey hl.typeIs (by decide) (wpAny_bind (wpAny_callSpecial?_slot (name := Str.ofString "__setitem__") hl.typeIs slot_list_setitem (wpAny_call_entry slot_list_setitem hl.typeIs entry_list_setitem ?_ (args_list_setitem _ _ _)))))
  show wpAny _ _ (Builtin.List.listSubscript? (.ref sl) >>= _) _ _ st
  unfold Builtin.List.listSubscript?
  refine wpAny_bind (wpAny_bind (wpAny_specialOf tS slice_no_index ?_))
  simp only [Option.isNone_none, if_true]
  refine wpAny_pure (show wpAny _ _ (typeOf (.ref sl) >>= _) _ _ st from wpAny_bind (wpAny_typeOf tS ?_))
  first | rw [if_neg (by decide)] | refine PySem.W.KFB.if_not (by decide) ?_
  rw [listSliceParts_eq]
  refine wpAny_bind (wpAny_bind (wpAny_field h1 h3 (x := .none) rfl (wpAny_bind (wpAny_listPart .none ?_))))
  rw [if_neg (show ¬ ((rawPart none == rawInt 0) = true) from Bool.false_ne_true)]
  refine wpAny_bind (wpAny_field h1 h3 (x := .none) rfl (wpAny_bind (wpAny_listPart .none (wpAny_bind (wpAny_field h1 h3 (x := vu) rfl (wpAny_bind (wpAny_listPart pu (wpAny_pure ?_))))))))
  first | simp only [apart, Bool.false_eq_true, if_false] | refine PySem.W.KFB.if_not apart ?_ | (dsimp only; rw [if_neg (by rw [apart]; exact Bool.false_ne_true)])
  unfold Builtin.List.listAllItems
  refine wpAny_bind (wpAny_bind (wpAny_typeOf hb.typeIs ?_))
  first | refine PySem.W.KFB.if_so (by decide) ?_ | rw [if_pos (by decide)] | simp only [beq_self_eq_true, Bool.true_or, if_true]
  unfold Builtin.List.listItems
  refine wpAny_bind (wpAny_seqItems hb0 rfl (wpAny_pure (wpAny_bind (wpAny_bind (wpAny_seqItems hl0 rfl (wpAny_pure ?_))))))
  refine wpAny_bind (wpAny_of_eq ((sliceIndices_raw none (some (c : Int)) none its.size (by simp)).trans (congrArg (pure : Int × Int × Int → Sem (Int × Int × Int)) (bounds_head hc))) ?_)
  show wpAny _ _ (if ((1 : Int) == 1) = true then _ else _) _ _ st
  rw [if_pos (by decide)]
  refine wpAny_bind (wpAny_rule ?_)
  first | simp only [notLongL hsz, Bool.false_eq_true, if_false] | refine PySem.W.KFB.if_not (notLongL hsz) ?_
  try refine wpAny_bind (wpAny_pure ?_)
  show wpAny _ _ (updateSeq l (fun xs => xs.extract 0 ((0 : Int)).toNat ++ new ++ xs.extract (max (0 : Int) (c : Int)).toNat xs.size) >>= _) _ _ st
  rw [mx]
  refine wpAny_bind (wpAny_updateSeq (hz := Nat.le_trans (Nat.le_add_right _ _) hsz) (_hz' := z2) hl0 rfl (wpAny_bind (wpAny_letGo ?_)))
  first | exact wpAny_bind (wpAny_pure (wpAny_pure ⟨.none, rfl, wpAny_pure k⟩)) | exact wpAny_pure ⟨.none, rfl, wpAny_pure k⟩

/-- name[:hi] = a list -/
def gHead (to : TE) (th : TO) : TG := fun v σ H Q => to σ H fun o H1 => th σ H1 fun u H2 => ∃ (l b : Addr) (xs ys : List V) (c : Nat), o = .ref l ∧ u = some (c : Int) ∧ v = .ref b ∧ H2 l = some (.lst xs) ∧ H2 b = some (.lst ys) ∧ l ≠ b ∧ c ≤ xs.length ∧
  xs.length + ys.length ≤ sizeLine ∧ Q σ (upd H2 l (.lst (ys ++ xs.drop c)))
theorem pg_head {X : Cx} {pos p2 : Pos} {o : Expr} {hi : Option Expr} {to : TE} {th : TO} (ho : PE X o to) (hh : PO X hi th)
    (hx : ∀ v, assign (.Subscript o (.Slice none hi none p2) pos) X.env v = (do
      let ov ← holding [v] (eval o X.env)
      let iv ← holding [v, ov] (eval (.Slice none hi none p2) X.env)
      standAt pos
      holding [v, ov, iv] (setItem ov iv v)
      release [iv, v, ov] []) := by intro _; rfl) : PG X (.Subscript o (.Slice none hi none p2) pos) (gHead to th) := by
  refine ⟨fun pns st σ H v u Q I r h => ?_⟩
  rw [hx]
  refine wpAny_bind (wpAny_holding (thn (ho.run pns st σ H _ I h) fun ov st1 ⟨x, H1, I1, r1, q1⟩ => wpAny_bind (wpAny_holding (wpAny_Slice ?_))))
  rw [evalPart_none]
  refine wpAny_pure (thn (hh.run pns st1 σ H1 _ I1 q1) fun vu st2 ⟨u2, H2, I2, pu, q2⟩ => wpAny_pure ?_)
  obtain ⟨l, b, xs, ys, c, rfl, rfl, rfl, hl, hb, hne, hc, hz, q⟩ := q2
  cases r1
  cases r
  have I3 : Inv X pns σ H2 { st2 with heap := st2.heap.push { cls := .type "slice", data := .fields #[.none, vu, .none] } } := I2.kept (t' := st2.toks) fun _ _ z => Heap.get?_push_of_some _ z
  obtain ⟨z, its, n, rx, hxl, e⟩ := I3.lstM hl
  obtain ⟨z2, its2, n2, ry, hyl, e2⟩ := I3.lstM hb
  refine wpAny_bind (wpAny_standAt (wpAny_bind (wpAny_holding (set_head_raw e e2 hne (Heap.IsSliceOf.new ..) pu (by rw [List.size_toArray]; omega) (by rw [List.size_toArray, List.size_toArray]; omega) (wpAny_release ⟨σ, _, ?_, q⟩)))))
  refine I3.lset (its' := its2 ++ its.drop c) (t' := st2.toks) hl e ?_ (Vals.append ry (rx.drop _)) ?_
  · exact (splice_eq its its2 0 c).trans (by rw [List.take_zero, List.nil_append])
  · rw [List.length_append, List.length_drop]
    omega
end Tb
end

section
set_option Elab.async false
set_option linter.all false
set_option maxRecDepth 100000
set_option maxHeartbeats 1000000
/-! Toss base 7: lists that grow, slices, reversed rows, comprehensions over enumerate and over two. -/
namespace Tb
open PySem PySem.Spec PyProof.Rows L2 Evl

section
variable {K : PySem.W.Frag} {σ σ2 : L2.St} {B H H' : Hp} {ta tb te tx tl : TE} {t u : TT} {d e z : PyData} {ds es : List PyData} {D : Ends} {tu tw tz : TS} {g : TG} {b : Bool} {v : V} {vs : List Nat}
/-- name.append(e): the list at l stands apart from B -/
theorem sd_append {j : Nat} {l : Addr} {xs : List V} (x : Ex B H) (hl : H l = some (.lst xs)) (h0 : B l = none) (hj : σ[j]? = some (some (.ref l))) (h : EvD K te σ B d) (hz : xs.length < 100000)
    (k : ∀ w G H2, Gr B H G H2 → G l = none → H2 l = some (.lst xs) → Dq K G w d → D.nx σ (upd H2 l (.lst (xs ++ [w])))) : tDrop (tBM K "list" rAppend (tVar j) (tCons te tNil)) D σ H :=
  ⟨_, hj, .inl ⟨rfl, xs, sq_of hl⟩, h H x _ fun w G H2 g hw => by
    have h2 : H2 l = some (.lst xs) := g.h12 _ _ hl
    exact ⟨l, xs, w, rfl, rfl, h2, sz_lt hz, k w G H2 g (g.sep l h0 (by rw [hl]; exact fun z => nomatch z)) h2 hw⟩⟩
theorem qd_append {j : Nat} {l : Addr} {xs : List V} (x : Ex B H) (hl : H l = some (.lst xs)) (h0 : B l = none) (hj : σ[j]? = some (some (.ref l))) (h : EvD K te σ B d) (hz : xs.length < 100000)
    (k : ∀ w G H2, Gr B H G H2 → G l = none → H2 l = some (.lst xs) → Dq K G w d → tz D σ (upd H2 l (.lst (xs ++ [w])))) : tSeq (tDrop (tBM K "list" rAppend (tVar j) (tCons te tNil))) tz D σ H := sd_append (D := { D with nx := tz D }) x hl h0 hj h hz k
/-- what B knows stays when the list at l changes -/
theorem ex_upd {l : Addr} {o : HO} (x : Ex B H) (h0 : B l = none) : Ex B (upd H l o) := Ex.mut x h0
/-- list * int -/
theorem dl_rep {k : Int} (ha : EvDL K ta σ H ds) (hb : EvD K tb σ H (.int k)) (h1 : 0 ≤ k) (h2 : k ≤ 1000) (hl : ds.length ≤ 1000) : EvDL K (tOp rRep ta tb) σ H (List.replicate k.toNat ds).flatten := fun H1 x Q q =>
  ha H1 x _ fun p xs G2 H2 g0 h0 g2 hp hxs => hb.mono g2.hg H2 g2.g2 _ fun w G3 H3 g3 hw => by
    have hk := hw.int_of
    subst hk
    have hxl := hxs.length
    have hm : xs.length * k.toNat ≤ 1000 * 1000 := Nat.mul_le_mul (by omega) (by omega)
    have hfl : DqAll K G3 (List.replicate k.toNat xs).flatten (List.replicate k.toNat ds).flatten := by
      generalize k.toNat = n
      induction n with
      | zero => exact .nil
      | succ n ih =>
        rw [List.replicate_succ, List.replicate_succ, List.flatten_cons, List.flatten_cons]
        exact (dpa_mono g3.hg hxs).append ih
    refine ⟨p, k, xs, rfl, rfl, g3.h12 _ _ hp, by omega, by omega, Nat.le_trans hm (by decide), fun p2 hp2 => ?_⟩
    exact q p2 _ G3 _ (fresh_back g3.g2 hp2) (fresh_back (g2.h12.trans g3.h12) hp2) ((g2.trans g3).trans (Gr.mut g3.g2 hp2)) upd_same hfl
/-- xs[:c] of a list that may change later -/
theorem cut_head {α : Type} (xs : List V) (c : Nat) (hc : c ≤ xs.length) : cutV xs none (some (c : Int)) = xs.take c := by
  unfold cutV
  rw [HT.sIx_none, HT.sIx_nat]
  have e : min c xs.length = c := by omega
  rw [e]
  rfl
/-- enumerate in a comprehension, counted from k0 -/
theorem lc_turn {G1 H2 Hc : Hp} {Dl : Addr} {ys : List V} (hD : H2 Dl = none) (a1 : B Dl = none) (a2 : Gr G1 H2 B Hc) (a3 : Hc Dl = some (.lst ys)) (a4 : DqAll K B ys es) (hlen : ys.length ≤ 50000) (o : Option PyData) (ht : EvT t σ2 B o.isSome)
    (he : ∀ e, o = some e → EvD K te σ2 B e) {P : Hp → Prop} (hP : ∀ G' ys' H', G' Dl = none → Gr G1 H2 G' H' → H' Dl = some (.lst ys') → DqAll K G' ys' (es ++ o.toList) → P H') :
    t σ2 Hc fun b H3 => if b = true then te σ2 H3 fun w H4 => ∃ acc, H4 Dl = some (.lst acc) ∧ acc.length < sizeLine ∧ P (upd H4 Dl (.lst (acc ++ [w]))) else P H3 := by
  refine ht Hc a2.g2 _ fun H3 e3 => ?_
  cases o with
  | none =>
    show P H3
    exact hP B ys H3 a1 ⟨a2.hg, a2.g2.trans e3, a2.h12.trans e3, a2.sep⟩ (e3 _ _ a3) (by simpa using a4)
  | some e =>
    show te σ2 H3 fun w H4 => ∃ acc, H4 Dl = some (.lst acc) ∧ acc.length < sizeLine ∧ P (upd H4 Dl (.lst (acc ++ [w])))
    refine he e rfl H3 (a2.g2.trans e3) _ fun w G4 H4 g4 hw4 => ?_
    have hG4 : G4 Dl = none := g4.sep Dl a1 (by rw [e3 _ _ a3]; exact fun z => nomatch z)
    refine ⟨ys, g4.h12 _ _ (e3 _ _ a3), sz_lt (by omega), hP G4 _ _ hG4 ⟨a2.hg.trans g4.hg, fun b u hu => ?_, Ex.mut ((a2.h12.trans e3).trans g4.h12) hD, fun b h1 h2 => ?_⟩ upd_same ((dpa_mono g4.hg a4).append (.one hw4))⟩
    · rw [upd_ne (ne_of_none hu hG4)]
      exact g4.g2 b u hu
    · refine g4.sep b (a2.sep b h1 h2) fun z => ?_
      cases q2 : H2 b with
      | none => exact h2 q2
      | some o =>
        rw [(a2.h12.trans e3) b o q2] at z
        cases z
theorem gr_more {G1 H2 G Hc Hd : Hp} (a : Gr G1 H2 G Hc) (e : Ex Hc Hd) : Gr G1 H2 G Hd := ⟨a.hg, a.g2.trans e, a.h12.trans e, a.sep⟩
def mapFrom (k0 : Int) (f : Int → PyData → PyData) : List PyData → List PyData
  | [] => []
  | d :: ds => f k0 d :: mapFrom (k0 + 1) f ds
theorem mapFrom_snoc (f : Int → PyData → PyData) (d : PyData) : ∀ (ds : List PyData) (k0 : Int), mapFrom k0 f (ds ++ [d]) = mapFrom k0 f ds ++ [f (k0 + (ds.length : Int)) d]
  | [], k0 => by
    show [f k0 d] = [f (k0 + ((0 : Nat) : Int)) d]
    rw [show k0 + ((0 : Nat) : Int) = k0 by omega]
  | x :: ds, k0 => by
    show f k0 x :: mapFrom (k0 + 1) f (ds ++ [d]) = f k0 x :: (mapFrom (k0 + 1) f ds ++ [_])
    rw [mapFrom_snoc f d ds (k0 + 1)]
    congr 3
    rw [List.length_cons]
    congr 1
    omega
theorem mapFrom_length (f : Int → PyData → PyData) : ∀ (ds : List PyData) (k0 : Int), (mapFrom k0 f ds).length = ds.length
  | [], _ => rfl
  | d :: ds, k0 => congrArg Nat.succ (mapFrom_length f ds (k0 + 1))
theorem dl_lcE {j i c : Nat} {k0 : Int} (f : Int → PyData → PyData) (hd : Dq K H v (rows b ds)) (hv : σ[j]? = some (some v)) (hl : ds.length ≤ 40000) (h1 : -(2 ^ 63) ≤ k0) (h2 : k0 < 2 ^ 63) (hw : ∀ y w, wipe (((wipe σ vs).set i (some y)).set c (some w)) vs = wipe σ vs)
    (he : ∀ (n : Nat) (d : PyData) (y : V) (G : Hp), ds[n]? = some d → Ex H G → Dq K G y d → EvD K te (((wipe σ vs).set i (some (.int (k0 + (n : Int))))).set c (some y)) G (f (k0 + (n : Int)) d)) :
    EvDL K (tLc (iEnumS K (tCons (tVar j) tNil) (tCons (tC (.int k0)) tNil)) (gRow K 2 (gCons (gName i) (gCons (gName c) gNil))) tYes te vs) σ H (mapFrom k0 f ds) := fun H1 x Q q => by
  obtain ⟨a, xs, rfl, hr, ha⟩ := row_of hd
  have hxl := ha.length
  let Pv : Addr → Nat → Hp → Prop := fun Dl n H' => ∃ G ys, G Dl = none ∧ Gr H H1 G H' ∧ H' Dl = some (.lst ys) ∧ DqAll K G ys (mapFrom k0 f (ds.take n))
  have h0 : ∀ Dl, H1 Dl = none → Pv Dl 0 (upd H1 Dl (.lst [])) := fun Dl hD => ⟨H, [], fresh_back x hD, Gr.mut x hD, upd_same, .nil⟩
  have fin : ∀ Dl, H1 Dl = none → ∀ H', Pv Dl ds.length H' → Q (.ref Dl) H' := fun Dl hD H' ⟨G, ys, a1, a2, a3, a4⟩ => by
    rw [List.take_length] at a4
    exact q Dl ys G H' a1 hD a2 a3 a4
  have turn : ∀ Dl, H1 Dl = none → ∀ (n : Nat) (y : V) (H' H'' : Hp), n < xs.length → Pv Dl n H' → (∃ T w, y = .ref T ∧ H' T = none ∧ H'' = upd H' T (.tup [.int (k0 + (n : Nat)), w]) ∧ xs[n]? = some w) →
      gRow K 2 (gCons (gName i) (gCons (gName c) gNil)) y (wipe σ vs) H'' fun σ2 H2' => wipe σ2 vs = wipe σ vs ∧ tYes σ2 H2' fun b H3 =>
        if b = true then te σ2 H3 fun w H4 => ∃ acc, H4 Dl = some (.lst acc) ∧ acc.length < sizeLine ∧ Pv Dl (n + 1) (upd H4 Dl (.lst (acc ++ [w]))) else Pv Dl (n + 1) H3 := by
    rintro Dl hD n y H' H'' hn ⟨G, ys, a1, a2, a3, a4⟩ ⟨T, w, rfl, hT, rfl, hx⟩
    obtain ⟨d, hdi, hdy⟩ := ha.get hx
    refine ⟨T, [.int (k0 + (n : Nat)), w], rfl, .inr (st_of upd_same), rfl, _, _, rfl, _, _, rfl, rfl, hw _ _, ?_⟩
    have hlen : ys.length ≤ 50000 := by
      rw [a4.length, mapFrom_length, List.length_take]
      omega
    refine lc_turn hD a1 (gr_more a2 (Ex.new hT)) (Ex.new hT _ _ a3) a4 hlen (some (f (k0 + (n : Int)) d)) et_yes (fun e ee => ?_) fun G' ys' H3 b1 b2 b3 b4 => ⟨G', ys', b1, b2, b3, ?_⟩
    · cases ee
      exact he n d w G hdi a2.hg (dp_mono a2.hg hdy)
    · rw [List.take_add_one, hdi]
      show DqAll K G' ys' (mapFrom k0 f (ds.take n ++ [d]))
      rw [mapFrom_snoc, List.length_take, show min n ds.length = n by omega]
      exact b4
  have Gstay : ∀ Dl n H', Pv Dl n H' → Ex H H' := fun Dl n H' ⟨G, ys, _, a2, _⟩ => a2.hg.trans a2.g2
  refine ⟨_, hv, .ref a, k0, rfl, rfl, h1, h2, a, rfl, ?_⟩
  rcases hr with hr | hr
  · exact .inl ⟨⟨xs, ex_l x hr⟩, fun Dl hD => lc_it walk_enumL (Pv Dl) (h0 Dl hD) (fun n H' _ p => ex_l (Gstay Dl n H' p) hr) (turn Dl hD) (by rw [hxl]; exact fin Dl hD)⟩
  · exact .inr ⟨⟨xs, ex_t x hr⟩, fun Dl hD => lc_it walk_enumT (Pv Dl) (h0 Dl hD) (fun n H' _ p => ex_t (Gstay Dl n H' p) hr) (turn Dl hD) (by rw [hxl]; exact fin Dl hD)⟩

/-! ### reversed -/
theorem walk_revT {a : Addr} {xs : List V} : Walk (RT.ItvT K a xs.length) xs.length (fun H => SqT K H a xs) (fun i H x H' => H' = H ∧ xs[xs.length - 1 - i]? = some x) :=
  ⟨fun i _ hi q => ⟨hi, xs, xs[xs.length - 1 - i]'(by omega), q, by simp [show xs.length - 1 - i < xs.length by omega]⟩, fun _ _ => Nat.le_refl _, fun _ _ _ _ _ q y => ⟨y.1, y.2 xs q⟩⟩
theorem sd_forRev {j : Nat} (e : Ex B H) (hd : Dq K B v (rows b ds)) (hv : σ[j]? = some (some v)) (Pv : Nat → L2.St → Hp → Prop) (h0 : Pv 0 σ H) (hG : ∀ i σ' H', i ≤ ds.length → Pv i σ' H' → Ex B H')
    (hs : ∀ i d x σ' H', i < ds.length → ds[ds.length - 1 - i]? = some d → Dq K B x d → Pv i σ' H' → g x σ' H' fun σ2 H2 => tu { D with nx := Pv (i + 1), ct := Pv (i + 1), bk := D.nx } σ2 H2)
    (hn : ∀ σ' H', Pv ds.length σ' H' → D.nx σ' H') : tFor (RT.iRevA K (tVar j)) g tu D σ H := by
  obtain ⟨a, xs, rfl, hr, ha⟩ := row_of hd
  have hl := ha.length
  have turn : ∀ (i : Nat) (x : V) (σ' : L2.St) (H1 H1' : Hp), i < xs.length → Pv i σ' H1 → (H1' = H1 ∧ xs[xs.length - 1 - i]? = some x) → g x σ' H1' fun σ2 H2 => tu { D with nx := Pv (i + 1), ct := Pv (i + 1), bk := D.nx } σ2 H2 := by
    rintro i x σ' H1 _ hi p ⟨rfl, hx⟩
    obtain ⟨d, h1, h2⟩ := ha.get hx
    rw [hl] at h1
    exact hs i d x σ' _ (by omega) h1 h2 p
  refine ⟨_, hv, a, xs, rfl, ?_⟩
  rcases hr with hr | hr
  · exact .inl ⟨ex_l e hr, for_it walk_rev Pv h0 (fun i σ' H' hi p => ex_l (hG i σ' H' (by omega) p) hr) turn (by rw [hl]; exact hn)⟩
  · exact .inr ⟨ex_t e hr, for_it walk_revT Pv h0 (fun i σ' H' hi p => ex_t (hG i σ' H' (by omega) p) hr) turn (by rw [hl]; exact hn)⟩
theorem qd_forRev {j : Nat} (e : Ex B H) (hd : Dq K B v (rows b ds)) (hv : σ[j]? = some (some v)) (Pv : Nat → L2.St → Hp → Prop) (h0 : Pv 0 σ H) (hG : ∀ i σ' H', i ≤ ds.length → Pv i σ' H' → Ex B H')
    (hs : ∀ i d x σ' H', i < ds.length → ds[ds.length - 1 - i]? = some d → Dq K B x d → Pv i σ' H' → g x σ' H' fun σ2 H2 => tu { D with nx := Pv (i + 1), ct := Pv (i + 1), bk := tz D } σ2 H2)
    (hn : ∀ σ' H', Pv ds.length σ' H' → tz D σ' H') : tSeq (tFor (RT.iRevA K (tVar j)) g tu) tz D σ H := sd_forRev (D := { D with nx := tz D }) e hd hv Pv h0 hG hs hn

/-- [x for part in reversed(row of lists) for x in part] -/
theorem dl_lc2rev {j a c : Nat} {dss : List (List PyData)} (hd : Dq K H v (rows b (dss.map .list))) (hv : σ[j]? = some (some v)) (hl : dss.flatten.length ≤ 40000) (hac : a ≠ c) (ha' : a < σ.length) (hc' : c < σ.length)
    (hw : ∀ y, wipe ((wipe σ [a, c]).set a (some y)) [a, c] = wipe σ [a, c]) (hw1 : ∀ y z, wipe ((wipe ((wipe σ [a, c]).set a (some y)) [c]).set c (some z)) [c] = wipe ((wipe σ [a, c]).set a (some y)) [c]) :
    EvDL K (tLc2 (RT.iRevA K (tVar j)) (gName a) tYes (iRow K (tVar a)) (gName c) tYes (tVar c) [a, c] [c]) σ H dss.reverse.flatten := fun H1 x Q q => by
  obtain ⟨ad, xs, rfl, hr, hx⟩ := row_of hd
  have hxl : xs.length = dss.length := by rw [hx.length, List.length_map]
  let Pd : Addr → List PyData → Hp → Prop := fun Dl es H' => ∃ G ys, G Dl = none ∧ Gr H H1 G H' ∧ H' Dl = some (.lst ys) ∧ DqAll K G ys es
  have stay : ∀ Dl es H', Pd Dl es H' → Ex H H' := fun Dl es H' ⟨G, ys, _, a2, _⟩ => a2.hg.trans a2.g2
  have fl : ∀ i, ((dss.reverse.take i).flatten).length ≤ 40000 := fun i => by
    have h1 : ((dss.reverse.take i).flatten).length ≤ (dss.reverse.flatten).length := by
      rw [← List.take_append_drop i dss.reverse, List.flatten_append, List.length_append, List.take_append_drop]
      omega
    have h2 : (dss.reverse.flatten).length = dss.flatten.length := by
      rw [List.length_flatten, List.length_flatten, List.map_reverse, List.sum_reverse]
    omega
  -- one outer turn
  have turn : ∀ Dl, H1 Dl = none → ∀ (i : Nat) (y : V) (H' : Hp), i < xs.length → xs[xs.length - 1 - i]? = some y → Pd Dl (dss.reverse.take i).flatten H' →
      ∃ (σ2 : L2.St), σ2 = (wipe σ [a, c]).set a (some y) ∧ (iRow K (tVar a)) σ2 H' fun J1 H4 => ∃ W1 : Nat → Nat → Hp → Prop, (∃ m, W1 0 m H4) ∧ ∀ j' k H, W1 j' k H →
        (J1.stop j' H ∧ Pd Dl (dss.reverse.take (i + 1)).flatten H) ∨ (J1.go j' H ∧ ∃ Nx1 : Hp → Prop, (∀ H', Nx1 H' → ∃ k', k' < k ∧ W1 (j' + 1) k' H') ∧ ∀ x H', J1.yld j' H x H' → (gName c) x (wipe σ2 [c]) H' fun σ3 H5 => wipe σ3 [c] = wipe σ2 [c] ∧ tYes σ3 H5 fun b H6 =>
          if b = true then (tVar c) σ3 H6 fun y H7 => ∃ acc, H7 Dl = some (.lst acc) ∧ acc.length < sizeLine ∧ Nx1 (upd H7 Dl (.lst (acc ++ [y]))) else Nx1 H6) := by
    intro Dl hD i y H' hi hy p
    obtain ⟨d, h1, h2⟩ := hx.get hy
    rw [hxl, List.getElem?_map] at h1
    have hrev : dss.reverse[i]? = dss[dss.length - 1 - i]? := List.getElem?_reverse (by omega)
    cases hq : dss[dss.length - 1 - i]? with
    | none =>
      rw [hq] at h1
      cases h1
    | some es =>
      rw [hq] at h1
      cases h1
      rw [hq] at hrev
      have hnext : (dss.reverse.take (i + 1)).flatten = (dss.reverse.take i).flatten ++ es := by
        rw [List.take_add_one, hrev, List.flatten_append]
        simp
      obtain ⟨q1, ys, rfl, hs, hes⟩ := Dq.lst_of h2
      have hel := hes.length
      have hlen1 := fl (i + 1)
      rw [hnext, List.length_append] at hlen1
      refine ⟨_, rfl, _, by rw [List.getElem?_set_self (by rw [wipe_length]; exact ha')], q1, rfl, .inl ⟨⟨ys, ex_l (stay Dl _ H' p) hs⟩, ?_⟩⟩
      refine ⟨fun j' k H' => k = ys.length - j' ∧ j' ≤ ys.length ∧ Pd Dl ((dss.reverse.take i).flatten ++ es.take j') H', ⟨ys.length, rfl, Nat.zero_le _, by simpa using p⟩, ?_⟩
      rintro j' k H'' ⟨rfl, hj, p'⟩
      by_cases hlt : j' < ys.length
      · refine .inr ⟨⟨ys, ys[j'], ex_l (stay Dl _ H'' p') hs, by simp [hlt]⟩, fun H3 => Pd Dl ((dss.reverse.take i).flatten ++ es.take (j' + 1)) H3, fun H3 p3 => ⟨ys.length - (j' + 1), by omega, rfl, hlt, p3⟩, fun z H3 hz => ?_⟩
        obtain ⟨rfl, hz⟩ := hz
        have hzi := hz ys (ex_l (stay Dl _ _ p') hs)
        obtain ⟨d', h3, h4⟩ := hes.get hzi
        refine ⟨hw1 _ _, ?_⟩
        obtain ⟨G, acc, a1, a2, a3, a4⟩ := p'
        have hlc : acc.length ≤ 50000 := by
          rw [a4.length, List.length_append, List.length_take]
          omega
        have tk : (dss.reverse.take i).flatten ++ es.take (j' + 1) = ((dss.reverse.take i).flatten ++ es.take j') ++ (some d').toList := by
          rw [List.take_add_one, h3, List.append_assoc]
        refine lc_turn (o := some d') hD a1 a2 a3 a4 hlc et_yes (fun e ee => ?_) fun G' ys' H5 b1 b2 b3 b4 => ⟨G', ys', b1, b2, b3, by rw [tk]; exact b4⟩
        cases ee
        refine d_var ?_ (dp_mono a2.hg h4)
        rw [List.getElem?_set_self]
        rw [wipe_length, List.length_set, wipe_length]
        exact hc'
      · have ej : j' = ys.length := by omega
        subst ej
        rw [hel, List.take_length, ← hnext] at p'
        exact .inl ⟨⟨ys, ex_l (stay Dl _ H'' p') hs, Nat.le_refl _⟩, p'⟩
  have go : ∀ (J : It) (Gx : Hp → Prop), Walk J xs.length Gx (fun i H x H' => H' = H ∧ xs[xs.length - 1 - i]? = some x) → (∀ H', Ex H H' → Gx H') → ∀ Dl, H1 Dl = none → ∃ W : Nat → Nat → Hp → Prop, (∃ m, W 0 m (upd H1 Dl (.lst []))) ∧ ∀ i m H, W i m H →
      (J.stop i H ∧ Q (.ref Dl) H) ∨ (J.go i H ∧ ∃ Nx : Hp → Prop, (∀ H', Nx H' → ∃ m', m' < m ∧ W (i + 1) m' H') ∧ ∀ x H', J.yld i H x H' → (gName a) x (wipe σ [a, c]) H' fun σ2 H2 => wipe σ2 [a, c] = wipe σ [a, c] ∧ tYes σ2 H2 fun b H3 =>
        if b = true then (iRow K (tVar a)) σ2 H3 fun J1 H4 => ∃ W1 : Nat → Nat → Hp → Prop, (∃ m, W1 0 m H4) ∧ ∀ j k H, W1 j k H →
          (J1.stop j H ∧ Nx H) ∨ (J1.go j H ∧ ∃ Nx1 : Hp → Prop, (∀ H', Nx1 H' → ∃ k', k' < k ∧ W1 (j + 1) k' H') ∧ ∀ x H', J1.yld j H x H' → (gName c) x (wipe σ2 [c]) H' fun σ3 H5 => wipe σ3 [c] = wipe σ2 [c] ∧ tYes σ3 H5 fun b H6 =>
            if b = true then (tVar c) σ3 H6 fun y H7 => ∃ acc, H7 Dl = some (.lst acc) ∧ acc.length < sizeLine ∧ Nx1 (upd H7 Dl (.lst (acc ++ [y]))) else Nx1 H6)
        else Nx H3) := by
    intro J Gx wk hGx Dl hD
    refine ⟨fun i m H' => m = xs.length - i ∧ i ≤ xs.length ∧ Pd Dl (dss.reverse.take i).flatten H', ⟨xs.length, rfl, Nat.zero_le _, H, [], fresh_back x hD, Gr.mut x hD, upd_same, .nil⟩, ?_⟩
    rintro i m H' ⟨rfl, hi, p⟩
    have hg := hGx H' (stay Dl _ H' p)
    by_cases hlt : i < xs.length
    · refine .inr ⟨wk.goes i H' hlt hg, fun H3 => Pd Dl (dss.reverse.take (i + 1)).flatten H3, fun H3 p3 => ⟨xs.length - (i + 1), by omega, rfl, hlt, p3⟩, fun y H3 hy => ?_⟩
      obtain ⟨e1, hy2⟩ := wk.yields i H' y H3 hlt hg hy
      subst e1
      obtain ⟨σ2, rfl, h2⟩ := turn Dl hD i y _ hlt hy2 p
      exact ⟨hw y, h2⟩
    · have ei : i = xs.length := by omega
      subst ei
      refine .inl ⟨wk.stops H' hg, ?_⟩
      rw [hxl, ← List.length_reverse, List.take_length] at p
      obtain ⟨G, ys, a1, a2, a3, a4⟩ := p
      exact q Dl ys G H' a1 hD a2 a3 a4
  refine ⟨_, hv, ad, xs, rfl, ?_⟩
  rcases hr with hr | hr
  · exact .inl ⟨ex_l x hr, fun Dl hD => go _ _ walk_rev (fun H' e => ex_l e hr) Dl hD⟩
  · exact .inr ⟨ex_t x hr, fun Dl hD => go _ _ walk_revT (fun H' e => ex_t e hr) Dl hD⟩
end
end Tb
end

section
set_option Elab.async false
set_option linter.all false
set_option maxRecDepth 100000
set_option maxHeartbeats 1000000
/-! Toss base 8: a tuple whose object is known, dict(towers), loops over new rows, list(range), a row and another one. -/
namespace Tb
open PySem PySem.Spec PyProof.Rows L2 Evl

section
variable {X : Cx}
/-- tuple(a list): a new tuple, its object known (it has no dict) -/
theorem call_tuple_fz : CallR X (.type "tuple") (fun xs H Q => ∃ p ys, xs = [V.ref p] ∧ SqL X.K H p ys ∧ ∀ l o, H l = none → o.cls = .type "tuple" → o.dict = none → Q (.ref l) (upd H l (.frz o (.tup ys)))) := by
  intro pns st σ H xs us Q I r h
  obtain ⟨p, ys, rfl, hq, q⟩ := h
  obtain ⟨u, rfl, rx⟩ := vals1 r
  cases rx
  obtain ⟨its, r', pl, hz⟩ := I.list hq
  have hlen := r'.length
  refine call_tuple_list pl.isList (fun h' kp => ?_) (by simp only [List.size_toArray] <;> omega)
  have I1 : Inv X pns σ H { st with heap := h' } := I.kept (t' := st.toks) kp
  have hget : (h'.push { cls := .type "tuple", data := .seq its.toArray }).get? h'.objs.size = some { cls := .type "tuple", data := .seq its.toArray } := Heap.get?_push_size _ rfl
  have I2 : Inv X pns σ (upd H h'.objs.size (.frz { cls := .type "tuple", data := .seq its.toArray } (.tup ys))) { st with heap := h'.push { cls := .type "tuple", data := .seq its.toArray } } :=
    I1.laid (t' := st.toks) (fun _ _ z => Heap.get?_push_of_some _ z) (Nat.le_refl _) (show ObjOk X.prog X.w _ _ _ (.frz _ (.tup ys)) from ⟨hget, hz, its, r', IsTup.new _ _⟩)
  exact ⟨.ref h'.objs.size, _, I2, rfl, q _ _ (I1.hok.fresh (Nat.le_refl _)) rfl rfl⟩
/-- dict(a tuple of pairs) -/
theorem call_dict_fz (hc : X.calm = true) : CallR X (.type "dict") (fun xs H Q => ∃ (a : Addr) (o : Obj) (ps : List Addr) (kvs : List (Key × V)), xs = [V.ref a] ∧ H a = some (.frz o (.tup (ps.map V.ref))) ∧ o.cls = .type "tuple" ∧ o.dict = none ∧
    Paired (fun p kv => SqT X.K H p [kV kv.1, kv.2]) ps kvs ∧ ∀ p, H p = none → Q (.ref p) (upd H p (.dK (mergeK [] kvs)))) := by
  intro pns st σ H xs us Q I r h
  obtain ⟨a, o, ps, kvs, rfl, ha, hcl, hdn, hp, q⟩ := h
  obtain ⟨u, rfl, rx⟩ := vals1 r
  cases rx
  obtain ⟨hget, hz, its, rv, ht⟩ := (show ObjOk X.prog X.w H st.heap a (.frz o (.tup (ps.map V.ref))) from I.hok a _ ha)
  have ei := refs_at rv
  subst ei
  rw [List.length_map] at hz
  obtain ⟨prs, rel, hl, hpr⟩ := pairs_of I hp
  obtain ⟨o2, ho2, hc2, n, hd2⟩ := ht
  rw [hget] at ho2
  cases ho2
  -- the keys as they stand
  have hks : ∃ ws : List (Value × Value), ws.length = prs.length ∧ ∀ (j : Nat) (k v : Value), ws[j]? = some (k, v) → ∃ b q', ps[j]? = some b ∧ prs[j]? = some q' ∧ v = q'.2 ∧ IsTup st.heap b #[k, v] ∧ keyIs q'.1 k = true := by
    have all : ∀ m, m ≤ prs.length → ∃ ws : List (Value × Value), ws.length = m ∧ ∀ (j : Nat) (k v : Value), ws[j]? = some (k, v) → ∃ b q', ps[j]? = some b ∧ prs[j]? = some q' ∧ v = q'.2 ∧ IsTup st.heap b #[k, v] ∧ keyIs q'.1 k = true := by
      intro m
      induction m with
      | zero => exact fun _ => ⟨[], rfl, fun j k v e => by simp at e⟩
      | succ m ih =>
        intro hm
        obtain ⟨ws, h1, h2⟩ := ih (by omega)
        have hlt : m < prs.length := by omega
        obtain ⟨b, u, e1, e2, e3⟩ := hpr m prs[m] (List.getElem?_eq_getElem hlt)
        refine ⟨ws ++ [(u, prs[m].2)], by rw [List.length_append, h1]; rfl, fun j k v e => ?_⟩
        by_cases hj : j < ws.length
        · rw [List.getElem?_append_left hj] at e
          exact h2 j k v e
        · rw [List.getElem?_append_right (by omega)] at e
          have hj2 : j = m := by
            by_cases z : j - ws.length = 0
            · omega
            · obtain ⟨c, hc⟩ : ∃ c, j - ws.length = c + 1 := ⟨j - ws.length - 1, by omega⟩
              rw [hc] at e
              simp at e
          subst hj2
          rw [h1, Nat.sub_self] at e
          cases e
          exact ⟨b, _, e1, List.getElem?_eq_getElem hlt, rfl, e2, e3⟩
    exact all _ (Nat.le_refl _)
  obtain ⟨ws, hwl, hws⟩ := hks
  let Ts : Nat → Addr := fun j => ps.getD j 0
  have ok : PlainSeq "tuple" st.heap a (ps.map Value.ref).toArray ∧ PairItems st.heap (ps.map Value.ref).toArray Ts ws := by
    refine ⟨⟨o, n, hget, hcl, hdn, hd2⟩, by simp [hwl, hl], fun j k v e => ?_⟩
    obtain ⟨b, q', e1, e2, e3, e4, e5⟩ := hws j k v e
    have eT : Ts j = b := by
      show ps.getD j 0 = b
      rw [List.getD_eq_getElem?_getD, e1]
      rfl
    rw [eT]
    exact ⟨by simp [e1], .inl e4⟩
  refine PySem.call_dict_pairs (knd := mixKind X.prog X.w) (kvs := prs) (PairArg.tuple a (ps.map Value.ref).toArray Ts ws) (I.ok.hd hc) ok ⟨hwl.symm, fun i k v e => ?_⟩ (by rw [hwl, hl]; exact hz) fun h' tk hd' hk => ?_
  · obtain ⟨b, q', e1, e2, e3, e4, e5⟩ := hws i k v e
    exact ⟨q'.1, by rw [e2, e3], e5⟩
  · have hm : (st.heap.objs.size == sysModules) = false := beq_eq_false_iff_ne.mpr (Nat.ne_of_gt I.big)
    have hlen : (mergeK [] kvs).length ≤ sizeLine := Nat.le_trans (length_mergeK kvs []) (by rw [List.length_nil, Nat.zero_add, rel.length, hl]; exact hz)
    exact ⟨.ref st.heap.objs.size, upd H st.heap.objs.size (.dK (mergeK [] kvs)), I.laid (t' := tk) (fun b o z => hk b o (by simp) z) (Nat.le_refl _) (show ObjOk X.prog X.w _ _ _ (.dK (mergeK [] kvs)) from ⟨hlen, hm, merged [] prs, KV.merge rel .nil, hd'⟩), rfl, q _ (I.hok.fresh (Nat.le_refl _))⟩
end

section
variable {K : PySem.W.Frag} {σ : L2.St} {B H H' : Hp} {ta tb te tx tl : TE} {t u : TT} {d e z : PyData} {ds es : List PyData} {D : Ends} {tu tw tz : TS} {g : TG} {b : Bool} {v : V}
/-- for .. in a row that an expression gives -/
theorem sd_forN (x : Ex B H) (h : EvD K tl σ B (rows b ds))
    (k : ∀ v G H1, Gr B H G H1 → Dq K G v (rows b ds) → ∃ Pv : Nat → L2.St → Hp → Prop, Pv 0 σ H1 ∧ (∀ i σ' H', i ≤ ds.length → Pv i σ' H' → Ex G H') ∧
      (∀ i d y σ' H', ds[i]? = some d → Dq K G y d → Pv i σ' H' → g y σ' H' fun σ2 H2 => tu { D with nx := Pv (i + 1), ct := Pv (i + 1), bk := D.nx } σ2 H2) ∧ ∀ σ' H', Pv ds.length σ' H' → D.nx σ' H') : tFor (iRow K tl) g tu D σ H := by
  refine h H x _ fun v G H1 gg hd => ?_
  obtain ⟨Pv, h0, hG, hs, hn⟩ := k v G H1 gg hd
  obtain ⟨a, xs, rfl, hr, ha⟩ := row_of hd
  have hl := ha.length
  refine ⟨a, rfl, ?_⟩
  rcases hr with hr | hr
  · refine .inl ⟨⟨xs, ex_l gg.g2 hr⟩, for_list (xs := xs) Pv h0 (fun i σ' H' hi p => ex_l (hG i σ' H' (by omega) p) hr) (fun i y σ' H' hy p => ?_) (by rw [hl]; exact hn)⟩
    obtain ⟨d, h1, h2⟩ := ha.get hy
    exact hs i d y σ' H' h1 h2 p
  · refine .inr ⟨⟨xs, ex_t gg.g2 hr⟩, for_tup (xs := xs) Pv h0 (fun i σ' H' hi p => ex_t (hG i σ' H' (by omega) p) hr) (fun i y σ' H' hy p => ?_) (by rw [hl]; exact hn)⟩
    obtain ⟨d, h1, h2⟩ := ha.get hy
    exact hs i d y σ' H' h1 h2 p
theorem qd_forN (x : Ex B H) (h : EvD K tl σ B (rows b ds))
    (k : ∀ v G H1, Gr B H G H1 → Dq K G v (rows b ds) → ∃ Pv : Nat → L2.St → Hp → Prop, Pv 0 σ H1 ∧ (∀ i σ' H', i ≤ ds.length → Pv i σ' H' → Ex G H') ∧
      (∀ i d y σ' H', ds[i]? = some d → Dq K G y d → Pv i σ' H' → g y σ' H' fun σ2 H2 => tu { D with nx := Pv (i + 1), ct := Pv (i + 1), bk := tz D } σ2 H2) ∧ ∀ σ' H', Pv ds.length σ' H' → tz D σ' H') : tSeq (tFor (iRow K tl) g tu) tz D σ H := sd_forN (D := { D with nx := tz D }) x h k
/-- list(range(i, j)) -/
theorem dl_listRg {i j : Int} (ha : EvD K ta σ B (.int i)) (hb : EvD K tb σ B (.int j)) (h0 : 0 ≤ i) (h1 : j ≤ 16777216) (h2 : i ≤ 16777216) (h3 : 0 ≤ j) :
    EvDL K (tLstRg (tRg2 ta tb)) σ B ((List.range (j - i).toNat).map fun n => .int (i + (n : Nat))) := fun H1 x Q q =>
  ha H1 x _ fun v G2 H2 g2 hv => hb.mono g2.hg H2 g2.g2 _ fun w G3 H3 g3 hw => by
    rw [hv.int_of, hw.int_of]
    refine ⟨i, j, rfl, rfl, .of_le h0 h1 h2 h3, fun p hp => q p _ G3 _ (fresh_back g3.g2 hp) (fresh_back (g2.h12.trans g3.h12) hp) ((g2.trans g3).trans (Gr.mut g3.g2 hp)) upd_same ?_⟩
    have all : ∀ l : List Nat, DqAll K G3 (l.map fun n => V.int (i + (n : Nat))) (l.map fun n => PyData.int (i + (n : Nat))) := fun l => by
      induction l with
      | nil => exact .nil
      | cons a l ih => exact .cons (.int _) ih
    exact all _
/-- a list + a list, both new, or known -/
theorem dl_cat (ha : EvDL K ta σ B ds) (hb : EvDL K tb σ B es) (hl : ds.length + es.length ≤ 100000) : EvDL K (tOp rCat ta tb) σ B (ds ++ es) := fun H1 x Q q =>
  ha H1 x _ fun p xs G2 H2 g0 h0 g2 hp hxs => hb.mono g2.hg H2 g2.g2 _ fun p2 ys G3 H3 g30 h30 g3 hp2 hys => by
    have hp3 := g3.h12 _ _ hp
    refine ⟨p, p2, xs, ys, rfl, rfl, hp3, hp2, sz_of (by rw [hxs.length, hys.length]; exact hl), fun p3 hp3' => q p3 _ G3 _ (fresh_back g3.g2 hp3') (fresh_back (g2.h12.trans g3.h12) hp3') ((g2.trans g3).trans (Gr.mut g3.g2 hp3')) upd_same ((dpa_mono g3.hg hxs).append hys)⟩
/-- the first n of a list that is known -/
theorem dl_first {n : Nat} (ha : EvD K ta σ B (.list ds)) (hb : EvD K tb σ B (.int (n : Int))) : EvDL K (tSl (rSlL K) ta tNoPart (tPart tb)) σ B (ds.take n) := fun H1 x Q q =>
  ha H1 x _ fun v G2 H2 g2 hv => hb.mono g2.hg H2 g2.g2 _ fun w G3 H3 g3 hw => by
    obtain ⟨a, xs, rfl, hs, hds⟩ := Dq.lst_of hv
    rw [hw.int_of]
    have hs3 := ex_l g3.hg hs
    have hds3 := dpa_mono g3.hg hds
    have hcut : cutV xs none (some (n : Int)) = xs.take n := by
      unfold cutV
      rw [HT.sIx_none, HT.sIx_nat]
      show (xs.drop 0).take (min n xs.length - 0) = xs.take n
      rw [List.drop_zero, Nat.sub_zero]
      by_cases h : n ≤ xs.length
      · rw [show min n xs.length = n by omega]
      · rw [show min n xs.length = xs.length by omega, List.take_length, List.take_of_length_le (by omega)]
    refine ⟨n, rfl, a, xs, rfl, ex_l g3.g2 hs3, fun p hp => ?_⟩
    rw [hcut]
    exact q p _ G3 _ (fresh_back g3.g2 hp) (fresh_back (g2.h12.trans g3.h12) hp) ((g2.trans g3).trans (Gr.mut g3.g2 hp)) upd_same (hds3.take n)
end
end Tb
end

section
set_option Elab.async false
set_option linter.all false
set_option maxRecDepth 100000
set_option maxHeartbeats 1000000
/-! Toss base 9: tuples multiplied and added, extend by a tuple, the least of a list, in, while. -/
namespace Tb
open PySem PySem.Spec PyProof.Rows L2 Evl

/-- the machine's tuple * 1: the tuple itself -/
theorem tm_one (l : Addr) (items : Array Value) (n : Nat) (dd : Option Addr) (sl : Array (Option Value)) (x : Int) (u : Tok) (c0 : (decide (x < -(2 ^ 63)) || decide (x ≥ 2 ^ 63)) = false) (c1 : (items.isEmpty || x == 1) = true) :
    Meets (Builtin.«tuple.__mul__» ⟨[.ref l, .int x u], []⟩) (fun _ R s => s.heap.get? l = some { cls := .type "tuple", dict := dd, data := .seq items n, slots := sl } ∧ R (.ok (.ret (Value.ref l))) s) :=
  .of_wp fun prog w A R s h => by
    obtain ⟨hp, g, d, tk, os⟩ := s
    obtain ⟨hl, h⟩ := h
    have f1 := AutoSeq1.idx_int
    wp_walk using wpAny_loadPart' hl
    repeat (first
      | (refine wpAny_ite_false (decide_eq_false (by rw [c0]; exact Bool.false_ne_true)) ?_; wp_walk using wpAny_loadPart' hl)
      | (refine wpAny_ite_true (decide_eq_true c1) ?_; wp_walk using wpAny_loadPart' hl))
    exact ⟨_, rfl, h⟩
/-- the machine's tuple * 0: an empty tuple -/
theorem tm_none (l : Addr) (items : Array Value) (n : Nat) (dd : Option Addr) (sl : Array (Option Value)) (x : Int) (u : Tok) (c0 : (decide (x < -(2 ^ 63)) || decide (x ≥ 2 ^ 63)) = false) (c1 : (items.isEmpty || x == 1) = false) (c2 : (decide (x ≤ 0) || items.isEmpty) = true) :
    Meets (Builtin.«tuple.__mul__» ⟨[.ref l, .int x u], []⟩) (fun _ R s => s.heap.get? l = some { cls := .type "tuple", dict := dd, data := .seq items n, slots := sl } ∧
      R (.ok (.ret (Value.ref s.heap.objs.size))) { s with heap := s.heap.push { cls := Value.type "tuple", data := Data.seq #[] }, toks := s.toks }) :=
  .of_wp fun prog w A R s h => by
    obtain ⟨hp, g, d, tk, os⟩ := s
    obtain ⟨hl, h⟩ := h
    have f1 := AutoSeq1.idx_int
    wp_walk using wpAny_loadPart' hl
    repeat (first
      | (refine wpAny_ite_false (decide_eq_false (by rw [c0]; exact Bool.false_ne_true)) ?_; wp_walk using wpAny_loadPart' hl)
      | (refine wpAny_ite_false (decide_eq_false (by rw [c1]; exact Bool.false_ne_true)) ?_; wp_walk using wpAny_loadPart' hl)
      | (refine wpAny_ite_true (decide_eq_true c2) ?_; wp_walk using wpAny_loadPart' hl))
    exact ⟨_, rfl, h⟩
/-- tuple * int, of any number up to 1,000 -/
def rRepA (K : PySem.W.Frag) : R2 := fun x y H Q => ∃ l k xs, x = .ref l ∧ y = .int k ∧ SqT K H l xs ∧ xs ≠ [] ∧ 0 ≤ k ∧ k ≤ 1000 ∧ xs.length ≤ 1000 ∧ (k = 1 → Q (.ref l) H) ∧ (k ≠ 1 → ∀ p, H p = none → Q (.ref p) (upd H p (.tup (List.replicate k.toNat xs).flatten)))
section
variable {X : Cx}
theorem op_repA : OpR X (binaryOp .Mult) (rRepA X.K) := by
  intro pins s σ H x y v u Q I rx ry h
  obtain ⟨l, k, xs, rfl, rfl, hT, hne, h0, h1, hz, q1, q2⟩ := h
  by_cases hk2 : 2 ≤ k
  · exact op_repT pins s σ H _ _ v u Q I rx ry ⟨l, k, xs, rfl, rfl, hT, hne, hk2, h1, hz, q2 (by omega)⟩
  cases rx
  obtain ⟨t, rfl⟩ := ry
  obtain ⟨its, r, ⟨⟨cls, dd, data, sl⟩, ho, hc, n, hd⟩, hs⟩ := I.tuple hT
  simp only at hc hd
  subst hc hd
  have hle : its.length = xs.length := r.length.symm
  have hn : its ≠ [] := fun e => hne (by
    rw [e] at hle
    exact List.eq_nil_of_length_eq_zero hle.symm)
  have hi : its.toArray.isEmpty = false := by
    cases its with
    | nil => exact absurd rfl hn
    | cons a b => rfl
  have c0 : (decide (k < -(2 ^ 63)) || decide (k ≥ 2 ^ 63)) = false := by
    rw [decide_eq_false (by omega), decide_eq_false (by omega)] <;> rfl
  by_cases hk1 : k = 1
  · have c1 : (its.toArray.isEmpty || k == 1) = true := by
      rw [hi, Bool.false_or]
      exact beq_iff_eq.mpr hk1
    exact wpAny_binaryOp_repeat_ref (T := "tuple") (U := "int") (by decide) ⟨_, ho, rfl⟩ (fun s' => typeIs_int s' k t) noFill_tuple_mul F.fills_int_mul F.slot_int_rmul repeat_tuple F.slot_int_index.lookup
      (call_meets F.slot_int_rmul (typeIs_int s k t) F.entry_int_rmul (F.args_int_rmul_2 _ _) (int_rmul_tuple k t l its.toArray n dd sl)
        ⟨ho, rfl, ⟨_, ho, rfl⟩, call_meets F.slot_tuple_mul ⟨_, ho, rfl⟩ F.entry_tuple_mul (F.args_tuple_mul_2 _ _) (tm_one l its.toArray n dd sl k t c0 c1) ⟨ho, .ref l, H, I, rfl, q1 hk1⟩⟩)
  · have c1 : (its.toArray.isEmpty || k == 1) = false := by
      rw [hi, Bool.false_or]
      exact beq_eq_false_iff_ne.mpr hk1
    have k0 : k = 0 := by omega
    have c2 : (decide (k ≤ 0) || its.toArray.isEmpty) = true := by
      rw [decide_eq_true (by omega)]
      rfl
    refine wpAny_binaryOp_repeat_ref (T := "tuple") (U := "int") (by decide) ⟨_, ho, rfl⟩ (fun s' => typeIs_int s' k t) noFill_tuple_mul F.fills_int_mul F.slot_int_rmul repeat_tuple F.slot_int_index.lookup
      (call_meets F.slot_int_rmul (typeIs_int s k t) F.entry_int_rmul (F.args_int_rmul_2 _ _) (int_rmul_tuple k t l its.toArray n dd sl)
        ⟨ho, rfl, ⟨_, ho, rfl⟩, call_meets F.slot_tuple_mul ⟨_, ho, rfl⟩ F.entry_tuple_mul (F.args_tuple_mul_2 _ _) (tm_none l its.toArray n dd sl k t c0 c1 c2) ⟨ho, ?_⟩⟩)
    refine ⟨.ref s.heap.objs.size, _, I.laid (t' := s.toks) (o := .tup (List.replicate k.toNat xs).flatten) (fun b ob q => Heap.get?_push_of_some _ q) (Nat.le_refl _) ?_, rfl, q2 hk1 _ (I.hok.fresh (Nat.le_refl _))⟩
    subst k0
    exact ⟨Nat.zero_le _, [], .nil, IsTup.new _ _⟩
/-- the machine's list.extend by a tuple -/
theorem ext_tup (l : Addr) (items : Array Value) (n : Nat) (b : Addr) (items2 : Array Value) (n2 : Nat) (dd : Option Addr) (sl : Array (Option Value)) (hs0 : ¬(!items.isEmpty && Builtin.List.listTooLong (items.size + items2.size)) = true) (hs1 : items.size ≤ sizeLine) (hs2 : items.size + items2.size ≤ sizeLine + 1) :
    Meets (Builtin.«list.extend» ⟨[.ref l, .ref b], []⟩) (fun _ R s => s.heap.get? l = some { cls := .type "list", dict := none, data := .seq items n, slots := #[] } ∧ s.heap.get? b = some { cls := .type "tuple", dict := dd, data := .seq items2 n2, slots := sl } ∧ R (.ok (.ret Value.none)) { s with heap := s.heap.update l (Obj.mapSeq fun x => x ++ items2), toks := s.toks }) :=
  .of_wp fun prog w A R s h => by
    obtain ⟨hp, g, d, tk, os⟩ := s
    obtain ⟨hl, hb, h⟩ := h
    have f1 := AutoSeq1.idx_int
    have f2 := AutoSeq1.sub_tuple_tuple
    have f3 := AutoSeq1.sub_list_list
    have f4 := AutoSeq1.sub_tuple_list
    have f5 := AutoSeq1.sub_list_tuple
    have hz' : (items ++ items2).size ≤ sizeLine + 1 := by
      rw [Array.size_append]
      exact hs2
    wp_walk using (wpAny_updateSeq hl rfl (hz := hs1) (_hz' := hz')), wpAny_loadPart' hl, wpAny_loadPart' hb
    exact ⟨_, rfl, h⟩
def rExtA (K : PySem.W.Frag) : V → List V → Hp → VK → Prop := fun x vs H Q => ∃ l b xs zs, x = .ref l ∧ vs = [.ref b] ∧ H l = some (.lst xs) ∧ SqT K H b zs ∧ xs.length + zs.length ≤ sizeLine ∧ Q .non (upd H l (.lst (xs ++ zs)))
theorem mt_extA : MtM X "list.extend" (rExtA X.K) := by
  intro pins s σ H x vs v us Q I rx rv h
  obtain ⟨l, b, xs, zs, rfl, rfl, hH, hB, hz, q⟩ := h
  cases rx
  obtain ⟨u, rfl, ru⟩ := rv.one
  cases ru
  obtain ⟨z, its, n, r, hl, e⟩ := I.lstM hH
  obtain ⟨its2, r2, ⟨⟨cls, dd, data, sl⟩, ho, hc, n2, hd⟩, hs⟩ := I.tuple hB
  simp only at hc hd
  subst hc hd
  have hl2 := r2.length
  have hsz : its.toArray.size + its2.toArray.size ≤ sizeLine := by rw [List.size_toArray, List.size_toArray]; omega
  have hlong : ¬ (!its.toArray.isEmpty && Builtin.List.listTooLong (its.toArray.size + its2.toArray.size)) = true := by
    rw [notLongL hsz, Bool.and_false]
    exact Bool.false_ne_true
  refine call_meets F.slot_list_extend ⟨_, e, rfl⟩ F.entry_list_extend (F.args_list_extend_2 _ _)
    (ext_tup l its.toArray n b its2.toArray n2 dd sl hlong (by rw [List.size_toArray]; omega) (by omega)) ⟨e, ho, ?_⟩
  refine ⟨.non, _, I.lset (its' := its ++ its2) hH e (by simp) (r.append r2) ?_, rfl, q⟩
  rw [List.length_append]
  omega
/-- the least of a list of ints -/
def rMinL (K : PySem.W.Frag) : List V → Hp → VK → Prop := fun xs H Q => ∃ (a : Addr) (n : Int) (ns : List Int), xs = [.ref a] ∧ SqL K H a ((n :: ns).map V.int) ∧ Q (.int (ns.foldl min n)) H
theorem call_minLI (hc : X.calm = true) (hu : X.A.units + 64 < cLine) : CallR X (.builtin "min") (rMinL X.K) := by
  intro pns st σ H xs us Q I r h
  obtain ⟨a, n, ns, rfl, hs, q⟩ := h
  obtain ⟨u, rfl, ru⟩ := vals1 r
  cases ru
  obtain ⟨its, rv, pl, _⟩ := I.list hs
  obtain ⟨as, hr⟩ := Dp.readsAll I ((n :: ns).map .int) _ its (DpAll.of_ints (n :: ns)) rv
  have hd := depth_ints (n :: ns)
  rw [List.map_cons] at hr hd
  refine PySem.W.min_list_data (I.ok.hd hc) pl.isList (by simpa using hr) (alike_ints (n :: ns)) (by omega) fun i v h' tk bs hv hr' hk => ?_
  rw [PySem.W.minD_ints] at hr'
  cases hr' with
  | int _ t => exact ⟨.int _, H, I.kept hk, ⟨_, rfl⟩, q⟩
end
section
variable {K : PySem.W.Frag} {σ : L2.St} {B H : Hp} {d e z : PyData} {ds es : List PyData} {D : Ends} {tu tz : TS} {t : TT} {te : TE} {b : Bool}
theorem dpa_rep {xs : List V} (n : Nat) (h : DqAll K H xs ds) : DqAll K H (List.replicate n xs).flatten (List.replicate n ds).flatten := by
  induction n with
  | zero => exact .nil
  | succ n ih =>
    rw [List.replicate_succ, List.replicate_succ, List.flatten_cons, List.flatten_cons]
    exact h.append ih
theorem rd_repA {k : Int} (hn : towerish (List.replicate k.toNat ds).flatten = false) (hne : ds ≠ []) (h0 : 0 ≤ k) (h1 : k ≤ 1000) (hl : ds.length ≤ 1000) : RD K (rRepA K) (.tuple ds) (.int k) H (.tuple (List.replicate k.toNat ds).flatten) := fun x y H1 ex hx hy Q q => by
  obtain ⟨a, xs, rfl, hs, hd⟩ := Dq.tup_of hx
  have hlen := hd.length
  refine ⟨a, k, xs, rfl, hy.int_of, ex_t ex hs, fun z => ?_, h0, h1, by omega, fun e => ?_, fun _ p hp => ?_⟩
  · rw [z] at hlen
    exact hne (List.eq_nil_of_length_eq_zero hlen.symm)
  · subst e
    refine q _ H H1 (.refl ex) ?_
    show Dq K H (.ref a) (.tuple (ds ++ []))
    rw [List.append_nil]
    exact .tupN hs hd (by simpa using hn)
  · exact q _ _ _ (Gr.new ex hp) (.tupN (st_of upd_same) (dpa_mono (Ex.new (fresh_back ex hp)) (dpa_rep _ hd)) hn)
theorem rd_catA (hn : towerish (ds ++ es) = false) (hl : ds.length + es.length ≤ 100000) : RD K (rCatA K) (.tuple ds) (.tuple es) H (.tuple (ds ++ es)) := fun x y H1 ex hx hy Q q => by
  obtain ⟨a, xs, rfl, hs, hd⟩ := Dq.tup_of hx
  obtain ⟨b, ys, rfl, hs2, hd2⟩ := Dq.tup_of hy
  have e1 := hd.length
  have e2 := hd2.length
  refine ⟨a, b, xs, ys, rfl, rfl, ex_t ex hs, ex_t ex hs2, sz_of (by omega), fun z => ?_, fun _ z => ?_, fun _ _ p hp => ?_⟩
  · subst z
    cases hd
    exact q _ H H1 (.refl ex) hy
  · subst z
    cases hd2
    rw [List.append_nil] at q
    exact q _ H H1 (.refl ex) hx
  · exact q _ _ _ (Gr.new ex hp) (.tupN (st_of upd_same) (dpa_mono (Ex.new (fresh_back ex hp)) (hd.append hd2)) hn)
theorem rcd_minL {n : Int} {ns : List Int} : RCD K (rMinL K) [.list ((n :: ns).map .int)] H (.int (ns.foldl min n)) := fun vs H1 x hd Q q => by
  cases hd with
  | cons h h0 =>
    cases h0
    obtain ⟨a, xs, rfl, hs, hds⟩ := Dq.lst_of h
    have e := DqAll.ints (ns := n :: ns) hds
    subst e
    exact ⟨a, n, ns, rfl, ex_l x hs, q _ H H1 (.refl x) (.int _)⟩
theorem rd_inI {i : Int} {ns : List Int} {neg : Bool} : RD K (rIn K neg) (.int i) (rows b (ns.map .int)) H (.bool (if neg then !(ns.any (· == i)) else ns.any (· == i))) := fun x y H1 ex hx hy Q q => by
  obtain ⟨a, xs, rfl, hr, hd⟩ := row_of hy
  have e := hd.ints
  subst e
  rw [hx.int_of]
  refine ⟨a, _, rfl, row_mono ex hr, rfl, by simp [flatV], ?_⟩
  have e2 : inV (.int i) (ns.map V.int) = ns.any (· == i) := by
    unfold inV
    rw [List.any_map]
    rfl
  rw [e2]
  exact q _ H H1 (.refl ex) (.bl _)
theorem dpa_strs : ∀ {vs : List V} {zs : List Str}, DqAll K H vs (zs.map .str) → vs = zs.map V.str
  | _, [], .nil => rfl
  | _, z :: zs, .cons r a => by
    rw [Dq.str_of r, dpa_strs a]
    rfl
theorem rd_inZ {i : Str} {zs : List Str} {neg : Bool} : RD K (rIn K neg) (.str i) (rows b (zs.map .str)) H (.bool (if neg then !(zs.any (· == i)) else zs.any (· == i))) := fun x y H1 ex hx hy Q q => by
  obtain ⟨a, xs, rfl, hr, hd⟩ := row_of hy
  have e := dpa_strs hd
  subst e
  rw [hx.str_of]
  refine ⟨a, _, rfl, row_mono ex hr, rfl, by simp [flatV], ?_⟩
  have e2 : inV (.str i) (zs.map V.str) = zs.any (· == i) := by
    unfold inV
    rw [List.any_map]
    rfl
  rw [e2]
  exact q _ H H1 (.refl ex) (.bl _)
/-- name.extend(a tuple) -/
theorem qd_extA {j : Nat} {l : Addr} {xs : List V} (x : Ex B H) (hl : H l = some (.lst xs)) (h0 : B l = none) (hj : σ[j]? = some (some (.ref l))) (h : EvD K te σ B (.tuple ds)) (hz : xs.length + ds.length ≤ 100000)
    (k : ∀ zs G H2, Gr B H G H2 → G l = none → H2 l = some (.lst xs) → DqAll K G zs ds → tz D σ (upd H2 l (.lst (xs ++ zs)))) : tSeq (tDrop (tBM K "list" (rExtA K) (tVar j) (tCons te tNil))) tz D σ H :=
  ⟨_, hj, .inl ⟨rfl, xs, sq_of hl⟩, h H x _ fun w G H2 g hw => by
    obtain ⟨b, zs, rfl, hs, hd⟩ := Dq.tup_of hw
    have h2 : H2 l = some (.lst xs) := g.h12 _ _ hl
    exact ⟨l, b, xs, zs, rfl, rfl, h2, ex_t g.g2 hs, sz_of (by have := hd.length; omega), k zs G H2 g (g.sep l h0 (by rw [hl]; exact fun z => nomatch z)) h2 hd⟩⟩
/-- while: W m is the word, m a number that falls -/
theorem sd_while (W : Nat → L2.St → Hp → Prop) (m0 : Nat) (h0 : W m0 σ H)
    (hs : ∀ m σ' H', W m σ' H' → ∃ (b : Bool) (G : Hp), Ex G H' ∧ EvT t σ' G b ∧ (b = true → ∀ H1, Ex H' H1 → ∃ N : L2.St → Hp → Prop, (∀ σ2 H2, N σ2 H2 → ∃ m', m' < m ∧ W m' σ2 H2) ∧ tu { D with nx := N, ct := N, bk := D.nx } σ' H1) ∧ (b = false → ∀ H1, Ex H' H1 → D.nx σ' H1)) : tWhile t tu D σ H :=
  ⟨W, ⟨m0, h0⟩, fun m σ' H' hw => by
    obtain ⟨b, G, x, hb, h1, h2⟩ := hs m σ' H' hw
    refine hb H' x _ fun H1 e => ?_
    cases b with
    | true => exact h1 rfl H1 e
    | false => exact h2 rfl H1 e⟩
theorem qd_while (W : Nat → L2.St → Hp → Prop) (m0 : Nat) (h0 : W m0 σ H)
    (hs : ∀ m σ' H', W m σ' H' → ∃ (b : Bool) (G : Hp), Ex G H' ∧ EvT t σ' G b ∧ (b = true → ∀ H1, Ex H' H1 → ∃ N : L2.St → Hp → Prop, (∀ σ2 H2, N σ2 H2 → ∃ m', m' < m ∧ W m' σ2 H2) ∧ tu { D with nx := N, ct := N, bk := tz D } σ' H1) ∧ (b = false → ∀ H1, Ex H' H1 → tz D σ' H1)) : tSeq (tWhile t tu) tz D σ H := sd_while (D := { D with nx := tz D }) W m0 h0 hs
end
end Tb
end

section
set_option Elab.async false
set_option linter.all false
set_option maxRecDepth 100000
set_option maxHeartbeats 400000
/-! Toss base 10: defs that raise; own exceptions with one field. -/
namespace Tb
open PySem PySem.Spec PyProof.Rows L2 Evl

/-- as has_mk, for a def that may raise -/
theorem has_mkX {P : Program} {w : World} {K : PySem.W.Frag} {mg : Str → Option Value} {base : Heap} {x qual : Str} {st : Stmt} {f : Addr} {fd : FuncData} {k : Nat} {N ps : List Str} {sp : Sp}
    (F : FunD K x qual (defArgs st) (defBody st) (defScope st) [] [] f fd) (hm : mg x = some (.ref f)) (S : FnScope N ps (defScope st)) (len : ∀ vs H Q E, sp vs H Q E → vs.length = ps.length)
    (h : ∀ (kV doc pm : Value) (an : Option Addr) (cdv ct : Value) (us : List Value), us.length = ps.length → bindArgs (PySem.W.fnOf x qual (defArgs st) (defBody st) (defScope st) .none kV doc pm an cdv ct) ⟨us, []⟩ = pure (ps.zip us))
    (body : ∀ (cdv : Value) (A : Around) (outer : List Env) (s : Shared) (H : Hp) (vs : List V) (Q : VK) (E : XK), Room k (A.deeper (envOfC qual (defScope st) s.heap.objs.size f cdv)) → sp vs H Q E →
      ∃ t, PSs (cxOf (L2.CX P w) P w K mg base N qual (defScope st) f cdv A outer s H E) (defBody st) t ∧ t { nx := fun _ H' => Q .non H', rt := Q } (start N vs) H) :
    Has P w K mg base (L2.CX P w) x (k + 1) ps [] sp := has_of F hm (F.ok S len body) h
/-- C.__init__(self, x): self.f = x -/
def spInit1 (K : PySem.W.Frag) (f : Str) : Sp := fun vs H Q _ => ∃ (a C : Addr) (y : V), vs = [.ref a, y] ∧ OexC K C ∧ PySem.W.findIn K (.ref C) f = some none ∧ H a = some (exo a C none) ∧ ∀ dx, H dx = none → dx ≠ a → Q .non (upd (upd H dx (exd dx [(f, y)])) a (exo a C (some dx)))
/-- C(e): the exception's dict, new, beside all that stood -/
theorem mk_one {K : PySem.W.Frag} {C : Addr} {f : Str} {σ : L2.St} {B H : Hp} {te : TE} {k : Int} {Q : XK} (T : OexC K C) (hno : PySem.W.findIn K (.ref C) f = some none) (x : Ex B H) (h : EvD K te σ B (.int k))
    (q : ∀ d H', Ex H H' → H d = none → H' d = some (.xd [(f, .int k)]) → Q (.ref C) (some d) H') : tMkO C (spInit1 K f) [] (tCons te tNil) σ H Q := by
  refine h H x _ fun v G H1 g hv => ⟨by show 1 ≤ 1000; decide, fun a ha => ⟨a, C, v, rfl, T, hno, upd_same, fun dx hdx ne => ?_⟩⟩
  have dn : H1 dx = none := by rw [upd_ne ne] at hdx; exact hdx
  refine ⟨rfl, dx, [(f, v)], upd_same, ?_, dn, ?_⟩
  · rw [upd_ne ne, upd_same]
  · rw [hv.int_of]
    refine q dx _ (g.h12.trans fun b o hb => ?_) (fresh_back g.h12 dn) upd_same
    have b1 : b ≠ dx := ne_of_none hb dn
    have b2 : b ≠ a := ne_of_none hb ha
    rw [upd_ne b1, del_ne b2, upd_ne b2, upd_ne b1, upd_ne b2]
    exact hb
end Tb
end

section
set_option Elab.async false
set_option linter.all false
set_option maxRecDepth 100000
set_option maxHeartbeats 1000000
/-! Base g, dicts 1: what stands at a known dict; d[k], k in d, d.get(k), d.get(k, x). -/
namespace L2
open PySem PySem.Spec PyProof.Rows Evl

def isTupK : NestedKey → Bool
  | .tup _ => true
  | _ => false
theorem leafK_not {v : V} {k : NestedKey} (h : leafK v = some k) : isTupK k = false := by
  unfold leafK at h
  split at h <;> first | (cases h; rfl) | cases h
/-- the leaf that a key is -/
def leafOf : NestedKey → Leaf
  | .num i => .num i
  | .text x => .text x
  | _ => .none
theorem leafOf_key {k : NestedKey} (h : isTupK k = false) : (leafOf k).key = k := by
  cases k <;> first | rfl | cases h
theorem leafOf_inj {k j : NestedKey} (h : isTupK k = false) (h2 : isTupK j = false) (e : leafOf k = leafOf j) : k = j := by
  rw [← leafOf_key h, ← leafOf_key h2, e]
theorem leaf_is {P : Program} {w : World} {v : V} {u : Value} {k : NestedKey} (h : leafK v = some k) (r : RelV v u) : (leafKind P w).is (leafOf k) u = true := by
  unfold leafK at h
  split at h
  · cases h
    cases (show u = Value.none from r)
    rfl
  · cases h
    obtain ⟨t, rfl⟩ := r
    exact decide_eq_true rfl
  · cases h
    rename_i x
    obtain ⟨t, rfl⟩ := r
    show (x == x) = true
    simp
  · cases h
theorem leaf_nested {h : Heap} {v : V} {u : Value} {k : NestedKey} (e : leafK v = some k) (r : RelV v u) : NestedIs h k u := by
  unfold leafK at e
  split at e
  · cases e
    cases (show u = Value.none from r)
    exact .none
  · cases e
    obtain ⟨t, rfl⟩ := r
    exact .int _ _
  · cases e
    obtain ⟨t, rfl⟩ := r
    exact .text _ _
  · cases e
theorem leaf_depth {v : V} {k : NestedKey} (e : leafK v = some k) : k.depth = 0 := by
  unfold leafK at e
  split at e <;> first | (cases e; rfl) | cases e
theorem leaf_all {h : Heap} : ∀ {vs : List V} {us : List Value} {ks : List NestedKey}, leafKs vs = some ks → Vals vs us → NestedAll h ks us ∧ NestedKey.depthAll ks = 0
  | [], _, ks, e, .nil => by
    cases e
    exact ⟨.nil, rfl⟩
  | v :: vs, _, ks, e, .cons r rs => by
    unfold leafKs at e
    split at e
    · rename_i k ks' e1 e2
      cases e
      obtain ⟨a, b⟩ := leaf_all e2 rs
      refine ⟨.cons (leaf_nested e1 r) a, ?_⟩
      unfold NestedKey.depthAll
      rw [leaf_depth e1, b]
      rfl
    · cases e
section
variable {X : Cx} {pins : List (Addr × Obj)} {σ : L2.St} {H : Hp} {s : Shared} {a b : Addr} {k : NestedKey} {kvs : List (NestedKey × V)}
theorem KeyT.at (I : Inv X pins σ H s) (h : KeyT X.K H b k) : (nestedKind X.prog X.w).is s.heap k b := by
  obtain ⟨vs, ks, hs, e, rfl⟩ := h
  obtain ⟨its, rv, ⟨o, ho, hc, n, hd⟩, _⟩ := I.tuple hs
  obtain ⟨h1, h2⟩ := leaf_all (h := s.heap) e rv
  refine ⟨.tup ho hc hd (by simpa using h1), ?_⟩
  unfold NestedKey.depth
  rw [h2]
  decide
theorem KeyT.tup (h : KeyT X.K H b k) : isTupK k = true := by
  obtain ⟨vs, ks, hs, e, rfl⟩ := h
  rfl
end
def findK (kvs : List (NestedKey × V)) (k : NestedKey) : Option V := (kvs.find? fun x => decide (x.1 = k)).map (·.2)
theorem find_tup {k : NestedKey} : ∀ {ys : List (NestedKey × Addr × Value)} {kvs : List (NestedKey × V)}, Paired (fun (y : NestedKey × Addr × Value) (x : NestedKey × V) => x.1 = y.1 ∧ RelV x.2 y.2.2) ys kvs → RelO (findK kvs k) (valueAt (pairsH ys) k)
  | _, _, .nil => True.intro
  | y :: ys, x :: kvs, .cons h t => by
    have ih := find_tup (k := k) t
    obtain ⟨h1, h2⟩ := h
    by_cases e : x.1 = k
    · have e1 : findK (x :: kvs) k = some x.2 := by simp [findK, e]
      have e2 : valueAt (pairsH (y :: ys)) k = some y.2.2 := by
        have : y.1 = k := h1.symm.trans e
        simp [valueAt, pairsH, this]
      rw [e1, e2]
      exact h2
    · have e1 : findK (x :: kvs) k = findK kvs k := by simp [findK, e]
      have e2 : valueAt (pairsH (y :: ys)) k = valueAt (pairsH ys) k := by
        have : ¬ y.1 = k := fun z => e (h1.trans z)
        simp [valueAt, pairsH, this]
      rw [e1, e2]
      exact ih
theorem find_leaf {k : NestedKey} (hk : isTupK k = false) : ∀ {vs : List (Leaf × Value)} {kvs : List (NestedKey × V)}, Paired (fun (v : Leaf × Value) (x : NestedKey × V) => isTupK x.1 = false ∧ leafOf x.1 = v.1 ∧ RelV x.2 v.2) vs kvs → RelO (findK kvs k) (valueAt vs (leafOf k))
  | _, _, .nil => True.intro
  | y :: ys, x :: kvs, .cons h t => by
    have ih := find_leaf hk t
    obtain ⟨h0, h1, h2⟩ := h
    by_cases e : x.1 = k
    · have e1 : findK (x :: kvs) k = some x.2 := by simp [findK, e]
      have e2 : valueAt (y :: ys) (leafOf k) = some y.2 := by
        have : y.1 = leafOf k := by rw [← h1, e]
        simp [valueAt, this]
      rw [e1, e2]
      exact h2
    · have e1 : findK (x :: kvs) k = findK kvs k := by simp [findK, e]
      have e2 : valueAt (y :: ys) (leafOf k) = valueAt ys (leafOf k) := by
        have : ¬ y.1 = leafOf k := fun z => e (leafOf_inj h0 hk (h1.trans z))
        simp [valueAt, this]
      rw [e1, e2]
      exact ih
section
variable {X : Cx} {pins : List (Addr × Obj)} {σ : L2.St} {H : Hp} {s : Shared} {a b : Addr} {k : NestedKey} {kvs : List (NestedKey × V)}
theorem raw_nil {P : Program} {w : World} {h : Heap} {ep : Nat} (x : h.DictRaw a #[] ep) : h.DictOf (leafKind P w) a [] := by
  obtain ⟨o, h1, h2, h3⟩ := x
  exact ⟨o, #[], ep, h1, h2, h3, fun e he => by simp at he, .nil, .nil⟩
theorem raw_nilH {P : Program} {w : World} {h : Heap} {ep : Nat} (x : h.DictRaw a #[] ep) : h.DictOfH (nestedKind P w) a [] := by
  obtain ⟨o, h1, h2, h3⟩ := x
  exact ⟨o, #[], ep, h1, h2, h3, rfl, (fun x hx => by cases hx), List.nodup_nil⟩
theorem nkey_leaf (k : Key) : isTupK (nkey k) = false := by cases k <;> rfl
theorem mix_leaf {P : Program} {w : World} {h : Heap} {vs : List (Key × Value)} (x : h.DictOf (mixKind P w) a vs) : h.DictOf (leafKind P w) a (vs.map fun v => (leafOf (nkey v.1), v.2)) := by
  obtain ⟨o, es, ep, h1, h2, h3, h4, h5, h6⟩ := x
  have is1 : ∀ {k : Key} {v : Value}, (mixKind P w).is k v = true → (leafKind P w).is (leafOf (nkey k)) v = true := fun {k v} e => by
    rcases keyIs_shape (k := k) (v := v) e with ⟨i, t, rfl, rfl⟩ | ⟨x, t, rfl, rfl⟩
    · exact decide_eq_true rfl
    · show (x == x) = true
      simp
  refine ⟨o, es, ep, h1, h2, h3, fun e he => ?_, ?_, ?_⟩
  · obtain ⟨k, i1, i2⟩ := h4 e he
    refine ⟨_, is1 i1, i2.trans ?_⟩
    cases k <;> rfl
  · clear h1 h2 h3 h4 h6
    generalize es.toList = l at h5
    induction h5 with
    | nil => exact .nil
    | cons e1 e2 _ ih => exact .cons (is1 e1) e2 ih
  · rw [List.Nodup, List.pairwise_map, List.pairwise_map]
    rw [List.Nodup, List.pairwise_map] at h6
    refine h6.imp fun {x y} ne e => ne ?_
    cases h1 : x.1 <;> cases h2 : y.1 <;> simp_all [nkey, leafOf]
theorem kv_leaf : ∀ {ks : List (Key × V)} {vs : List (Key × Value)}, KV ks vs →
    Paired (fun (v : Leaf × Value) (x : NestedKey × V) => isTupK x.1 = false ∧ leafOf x.1 = v.1 ∧ RelV x.2 v.2) (vs.map fun v => (leafOf (nkey v.1), v.2)) (ks.map fun kv => (nkey kv.1, kv.2))
  | _, _, .nil => .nil
  | _, _, .cons h t => by
    obtain ⟨e, r⟩ := h
    refine .cons ⟨nkey_leaf _, ?_, r⟩ (kv_leaf t)
    show leafOf (nkey _) = leafOf (nkey _)
    rw [e]
theorem dic_not (I : Inv X pins σ H s) (h : DicAt X.K H a kvs) : (a == sysModules) = false := by
  rcases h with ⟨h0, _⟩ | ⟨ks, _, h1, _⟩
  · exact h0
  · exact (dk_rd I.hok h1).2.1
theorem dic_exact (I : Inv X pins σ H s) (h : DicAt X.K H a kvs) : ∃ es ep, s.heap.DictRaw a es ep := by
  rcases h with ⟨_, es, ep, h1, _⟩ | ⟨ks, _, h1, _⟩
  · exact ⟨es, ep, (show ObjOk X.prog X.w H s.heap a (DicO a es ep) from I.hok a _ h1).1⟩
  · obtain ⟨_, _, vs, _, dd⟩ := dk_rd I.hok h1
    obtain ⟨es, ep, r, _⟩ := dd.raw
    exact ⟨es, ep, r⟩
theorem dic_tup (I : Inv X pins σ H s) (h : DicAt X.K H a kvs) (ht : ∀ x ∈ kvs, isTupK x.1 = true) :
    ∃ ys, s.heap.DictOfH (nestedKind X.prog X.w) a ys ∧ Paired (fun (y : NestedKey × Addr × Value) (x : NestedKey × V) => x.1 = y.1 ∧ RelV x.2 y.2.2) ys kvs := by
  rcases h with ⟨_, es, ep, h1, _, ys, h2, h3, h4⟩ | ⟨ks, hne, h1, h2⟩
  · obtain ⟨o, ho, hc, hd⟩ := (show ObjOk X.prog X.w H s.heap a (DicO a es ep) from I.hok a _ h1).1
    refine ⟨ys, ⟨o, es, ep, ho, hc, hd, h2 _ _, ?_, h3⟩, Paired.mapP h4 fun y x z => ⟨z.1, z.2.2⟩⟩
    have all : ∀ {ys : List (NestedKey × Addr × Value)} {kvs : List (NestedKey × V)}, Paired (fun (y : NestedKey × Addr × Value) (x : NestedKey × V) => x.1 = y.1 ∧ KeyT X.K H y.2.1 y.1 ∧ RelV x.2 y.2.2) ys kvs → ∀ y ∈ ys, (nestedKind X.prog X.w).is s.heap y.1 y.2.1 := by
      intro ys kvs q
      induction q with
      | nil => exact fun y hy => nomatch hy
      | cons hq t ih =>
        intro y hy
        rcases List.mem_cons.mp hy with e | hy
        · subst e
          exact hq.2.1.at I
        · exact ih y hy
    exact all h4
  · cases ks with
    | cons x xs =>
      subst h2
      have := ht (nkey x.1, x.2) (by simp)
      rw [nkey_leaf] at this
      cases this
    | nil =>
      subst h2
      obtain ⟨_, _, vs, rel, dd⟩ := dk_rd I.hok h1
      cases rel
      obtain ⟨es, ep, r, hz, _⟩ := dd.raw
      have e : es = #[] := Array.eq_empty_of_size_eq_zero (by simpa using hz)
      subst e
      exact ⟨[], raw_nilH r, .nil⟩
theorem dic_leaf (I : Inv X pins σ H s) (h : DicAt X.K H a kvs) (ht : ∀ x ∈ kvs, isTupK x.1 = false) :
    ∃ vs, s.heap.DictOf (leafKind X.prog X.w) a vs ∧ Paired (fun (v : Leaf × Value) (x : NestedKey × V) => isTupK x.1 = false ∧ leafOf x.1 = v.1 ∧ RelV x.2 v.2) vs kvs := by
  rcases h with ⟨_, es, ep, h1, _, ys, h2, h3, h4⟩ | ⟨ks, hne, h1, h2⟩
  · have r := (show ObjOk X.prog X.w H s.heap a (DicO a es ep) from I.hok a _ h1).1
    cases h4 with
    | cons q t =>
      have e1 := ht _ (List.mem_cons_self ..)
      rw [q.1, q.2.1.tup] at e1
      cases e1
    | nil =>
      have e : es = #[] := by
        have := h2 X.prog X.w
        simpa using this
      subst e
      exact ⟨[], raw_nil r, .nil⟩
  · subst h2
    obtain ⟨_, _, vs, rel, dd⟩ := dk_rd I.hok h1
    exact ⟨_, mix_leaf dd, kv_leaf rel⟩
/-! ### d[k], k in d, d.get -/
variable {y v d : V} {u r : Value} {A : Around} {E : Value → Shared → Prop}
/-- keys of one sort -/
def sameSort (kvs : List (NestedKey × V)) (k : NestedKey) : Prop := ∀ x ∈ kvs, isTupK x.1 = isTupK k
theorem nest_room (hu : A.units + 64 < cLine) : (nestedKind X.prog X.w).room A.in1 := by
  show A.in1.units + 8 < cLine
  have : A.in1.units ≤ A.units + 1 := by first | exact Nat.le_refl _ | (show A.units + 1 ≤ A.units + 1; omega)
  omega
theorem q_getItem {Q : Value → Shared → Prop} (hu : A.units + 64 < cLine) (I : Inv X pins σ H s) (h : DicAt X.K H a kvs) (hs : sameSort kvs k) (hy : KeyV X.K H y k) (ry : RelV y u) (g : findK kvs k = some v) (q : ∀ w' s', Inv X pins σ H s' → RelV v w' → Q w' s') :
    wpAny (model X.prog X.w) A (getItem (.ref a) u) Q E s := by
  rcases hy with hy | ⟨b, rfl, hb⟩
  · have hk := leafK_not hy
    obtain ⟨vs, dd, rel⟩ := dic_leaf I h fun x hx => (hs x hx).trans hk
    obtain ⟨w', hw, rw'⟩ := RelO.some_of (v := v) (o := valueAt vs (leafOf k)) (by rw [← g]; exact find_leaf hk rel)
    exact wpAny_getItem_of (leaf_is hy ry) dd.mapOf hw (q w' _ (I.tok _) rw')
  · cases (show u = Value.ref b from ry)
    obtain ⟨ys, dd, rel⟩ := dic_tup I h fun x hx => (hs x hx).trans hb.tup
    obtain ⟨w', hw, rw'⟩ := RelO.some_of (v := v) (o := valueAt (pairsH ys) k) (by rw [← g]; exact find_tup rel)
    exact getItem_keyed (nest_room hu) (hb.at I) ⟨ys, dd, rfl⟩ hw (q w' _ (I.tok _) rw')
theorem q_in {Q : Value → Shared → Prop} (hu : A.units + 64 < cLine) (I : Inv X pins σ H s) (h : DicAt X.K H a kvs) (hs : sameSort kvs k) (hy : KeyV X.K H y k) (ry : RelV y u) (q : ∀ s', Inv X pins σ H s' → Q (.bool (findK kvs k).isSome) s') :
    wpAny (model X.prog X.w) A (compareOp .In u (.ref a)) Q E s := by
  have hd := dic_not I h
  rcases hy with hy | ⟨b, rfl, hb⟩
  · have hk := leafK_not hy
    obtain ⟨vs, dd, rel⟩ := dic_leaf I h fun x hx => (hs x hx).trans hk
    refine wpAny_in_of (leaf_is hy ry) hd dd.mapOf ?_
    rw [← (find_leaf hk rel).isSome_eq]
    exact q _ (I.tok _)
  · cases (show u = Value.ref b from ry)
    obtain ⟨ys, dd, rel⟩ := dic_tup I h fun x hx => (hs x hx).trans hb.tup
    refine in_keyed (nest_room hu) (hb.at I) hd ⟨ys, dd, rfl⟩ ?_
    rw [← (find_tup rel).isSome_eq]
    exact q _ (I.tok _)
theorem q_notIn {Q : Value → Shared → Prop} (hu : A.units + 64 < cLine) (I : Inv X pins σ H s) (h : DicAt X.K H a kvs) (hs : sameSort kvs k) (hy : KeyV X.K H y k) (ry : RelV y u) (q : ∀ s', Inv X pins σ H s' → Q (.bool (!(findK kvs k).isSome)) s') :
    wpAny (model X.prog X.w) A (compareOp .NotIn u (.ref a)) Q E s := by
  have hd := dic_not I h
  rcases hy with hy | ⟨b, rfl, hb⟩
  · have hk := leafK_not hy
    obtain ⟨vs, dd, rel⟩ := dic_leaf I h fun x hx => (hs x hx).trans hk
    refine wpAny_notIn_of (leaf_is hy ry) hd dd.mapOf ?_
    rw [← (find_leaf hk rel).isSome_eq]
    exact q _ (I.tok _)
  · cases (show u = Value.ref b from ry)
    obtain ⟨ys, dd, rel⟩ := dic_tup I h fun x hx => (hs x hx).trans hb.tup
    refine notIn_keyed (nest_room hu) (hb.at I) hd ⟨ys, dd, rfl⟩ ?_
    rw [← (find_tup rel).isSome_eq]
    exact q _ (I.tok _)
theorem q_get1 {Q : Value → Shared → Prop} (hu : A.units + 64 < cLine) (I : Inv X pins σ H s) (h : DicAt X.K H a kvs) (hs : sameSort kvs k) (hy : KeyV X.K H y k) (ry : RelV y u) (q : ∀ w' s', Inv X pins σ H s' → RelV ((findK kvs k).getD .non) w' → Q w' s') :
    wpAny (model X.prog X.w) A (call (.builtin "dict.get") [.ref a, u]) Q E s := by
  have hd := dic_not I h
  rcases hy with hy | ⟨b, rfl, hb⟩
  · have hk := leafK_not hy
    obtain ⟨vs, dd, rel⟩ := dic_leaf I h fun x hx => (hs x hx).trans hk
    exact call_meetsIn PySem.F.slot_dict_get dd.typeIs PySem.F.entry_dict_get (PySem.F.args_dict_get_2 _ _) (meets_dict_get (leafKind X.prog X.w) a (leaf_is hy ry) hd) ⟨_, dd.mapOf, q _ _ (I.tok _) ((find_leaf hk rel).getD rfl)⟩
  · cases (show u = Value.ref b from ry)
    obtain ⟨ys, dd, rel⟩ := dic_tup I h fun x hx => (hs x hx).trans hb.tup
    exact get_keyed (nest_room hu) (hb.at I) hd ⟨ys, dd, rfl⟩ (q _ _ (I.tok _) ((find_tup rel).getD rfl))
theorem q_get2 {Q : Value → Shared → Prop} (hu : A.units + 64 < cLine) (I : Inv X pins σ H s) (h : DicAt X.K H a kvs) (hs : sameSort kvs k) (hy : KeyV X.K H y k) (ry : RelV y u) (rd : RelV d r) (q : ∀ w' s', Inv X pins σ H s' → RelV ((findK kvs k).getD d) w' → Q w' s') :
    wpAny (model X.prog X.w) A (call (.builtin "dict.get") [.ref a, u, r]) Q E s := by
  have hd := dic_not I h
  rcases hy with hy | ⟨b, rfl, hb⟩
  · have hk := leafK_not hy
    obtain ⟨vs, dd, rel⟩ := dic_leaf I h fun x hx => (hs x hx).trans hk
    exact call_meetsIn PySem.F.slot_dict_get dd.typeIs PySem.F.entry_dict_get (PySem.F.args_dict_get_3 _ _ _) (meets_dict_get_default (leafKind X.prog X.w) a (leaf_is hy ry) hd r) ⟨_, dd.mapOf, q _ _ (I.tok _) ((find_leaf hk rel).getD rd)⟩
  · cases (show u = Value.ref b from ry)
    obtain ⟨ys, dd, rel⟩ := dic_tup I h fun x hx => (hs x hx).trans hb.tup
    exact getOr_keyed (nest_room hu) (hb.at I) hd ⟨ys, dd, rfl⟩ (q _ _ (I.tok _) ((find_tup rel).getD rd))
end
end L2
end

section
set_option Elab.async false
set_option linter.all false
set_option maxRecDepth 100000
set_option maxHeartbeats 1000000
/-! Base h: dicts of one's own, as they stand. -/
namespace L2
open PySem PySem.Spec PyProof.Rows Evl
/-- what hashes alike in every world -/
def noTx : NestedKey → Bool
  | .none => true
  | .num _ => true
  | _ => false
def flatNo : NestedKey → Bool
  | .tup ks => ks.all noTx
  | _ => false
theorem hashes_same (w w' : World) : ∀ ks : List NestedKey, ks.all noTx = true → NestedKey.hashes w ks = NestedKey.hashes w' ks
  | [], _ => rfl
  | k :: ks, h => by
    rw [List.all_cons, Bool.and_eq_true] at h
    unfold NestedKey.hashes
    rw [hashes_same w w' ks h.2]
    congr 1
    cases k <;> first | rfl | cases h.1
theorem hash_same (w w' : World) {k : NestedKey} (h : flatNo k = true) : k.hash w = k.hash w' := by
  cases k with
  | tup ks =>
    unfold NestedKey.hash
    rw [hashes_same w w' ks h]
  | _ => cases h
/-- the entries, as they stand, and what is known of them -/
abbrev EntR (K : PySem.W.Frag) (H : Hp) : List (NestedKey × Addr × Value) → List (NestedKey × V) → Prop := Paired fun (y : NestedKey × Addr × Value) (x : NestedKey × V) => (x.1 = y.1 ∧ KeyT K H y.2.1 y.1 ∧ RelV x.2 y.2.2) ∧ flatNo y.1 = true
section
variable {K : PySem.W.Frag} {H : Hp}
theorem EntR.any (k : NestedKey) : ∀ {ys : List (NestedKey × Addr × Value)} {kvs : List (NestedKey × V)}, EntR K H ys kvs → (kvs.any fun kv => decide (kv.1 = k)) = (atKey ys k).isSome
  | _, _, .nil => rfl
  | y :: ys, x :: kvs, .cons h t => by
    have ih := EntR.any k t
    by_cases c : x.1 = k
    · have c2 : y.1 = k := h.1.1.symm.trans c
      simp [atKey, c, c2]
    · have c2 : ¬ y.1 = k := fun z => c (h.1.1.trans z)
      rw [List.any_cons, decide_eq_false c, Bool.false_or, ih]
      simp [atKey, c2]
theorem EntR.repl (k : NestedKey) {v : V} {u : Value} (r : RelV v u) : ∀ {ys : List (NestedKey × Addr × Value)} {kvs : List (NestedKey × V)}, EntR K H ys kvs → EntR K H (ys.map (putAt k u)) (kvs.map fun kv => if kv.1 = k then (kv.1, v) else kv)
  | _, _, .nil => .nil
  | y :: ys, x :: kvs, .cons h t => by
    rw [List.map_cons, List.map_cons]
    refine .cons ?_ (EntR.repl k r t)
    unfold putAt
    by_cases c : x.1 = k
    · have c2 : y.1 = k := h.1.1.symm.trans c
      rw [if_pos c, if_pos c2]
      exact ⟨⟨h.1.1, h.1.2.1, r⟩, h.2⟩
    · have c2 : ¬ y.1 = k := fun z => c (h.1.1.trans z)
      rw [if_neg c, if_neg c2]
      exact h
theorem EntR.put {ys : List (NestedKey × Addr × Value)} {kvs : List (NestedKey × V)} (h : EntR K H ys kvs) {y : NestedKey × Addr × Value} {x : NestedKey × V} (g : (x.1 = y.1 ∧ KeyT K H y.2.1 y.1 ∧ RelV x.2 y.2.2) ∧ flatNo y.1 = true) :
    EntR K H (storedH ys y.1 y.2.1 y.2.2) (putK kvs x.1 x.2) := by
  obtain ⟨k, v⟩ := x
  obtain ⟨k', b, u⟩ := y
  obtain ⟨⟨e, kt, r⟩, fl⟩ := g
  cases e
  unfold putK storedH
  rw [h.any k]
  by_cases c : (atKey ys k).isSome = true
  · rw [if_pos c, if_pos c]
    exact h.repl k r
  · rw [if_neg c, if_neg c]
    exact Paired.snoc h ⟨⟨rfl, kt, r⟩, fl⟩
theorem EntR.tup : ∀ {ys : List (NestedKey × Addr × Value)} {kvs : List (NestedKey × V)}, EntR K H ys kvs → Paired (fun (y : NestedKey × Addr × Value) (x : NestedKey × V) => x.1 = y.1 ∧ KeyT K H y.2.1 y.1 ∧ RelV x.2 y.2.2) ys kvs
  | _, _, .nil => .nil
  | _, _, .cons g t => .cons g.1 (EntR.tup t)
theorem EntR.map (P P' : Program) (w w' : World) : ∀ {ys : List (NestedKey × Addr × Value)} {kvs : List (NestedKey × V)}, EntR K H ys kvs → ys.map (entryOfKey (nestedKind P w)) = ys.map (entryOfKey (nestedKind P' w'))
  | _, _, .nil => rfl
  | y :: ys, _, .cons g t => by
    rw [List.map_cons, List.map_cons, EntR.map P P' w w' t]
    congr 1
    show (⟨y.1.hash w, _, _⟩ : DictEntry) = ⟨y.1.hash w', _, _⟩
    rw [hash_same w w' g.2]
theorem storedH_len (xs : List (NestedKey × Addr × Value)) (k : NestedKey) (a : Addr) (v : Value) : (storedH xs k a v).length ≤ xs.length + 1 := by
  unfold storedH
  split
  · rw [List.length_map]
    omega
  · rw [List.length_append]
    exact Nat.le_refl _
end
end L2
namespace Fd
open PySem PySem.Spec PyProof.Rows L2 Evl Tb
/-! ### a dict that grows -/
def keyI : PyData → Option Key
  | .int i => some (.inl i)
  | .str x => some (.inr x)
  | _ => none
def putD (ds : List (PyData × PyData)) (k v : PyData) : List (PyData × PyData) :=
  if (ds.any fun d => decide (keyD d.1 = keyD k)) = true then ds.map (fun d => if keyD d.1 = keyD k then (d.1, v) else d) else ds ++ [(k, v)]
theorem nkey_inj {k j : Key} (h : nkey k = nkey j) : k = j := by
  cases k <;> cases j <;> simp_all [nkey]
def KVD (K : PySem.W.Frag) (B : Hp) : List (Key × V) → List (PyData × PyData) → Prop := Paired fun x d => keyD d.1 = some (nkey x.1) ∧ Dq K B x.2 d.2
section
variable {K : PySem.W.Frag} {B B' : Hp} {k : Key} {v : V} {kd vd : PyData}
theorem keyI_key (h : keyI kd = some k) : keyD kd = some (nkey k) := by
  unfold keyI at h
  split at h
  · cases h
    rfl
  · cases h
    rfl
  · cases h
theorem keyI_v {w : V} (hd : Dq K B w kd) (h : keyI kd = some k) : w = kV k := by
  unfold keyI at h
  split at h
  · cases h
    exact hd.int_of
  · cases h
    exact hd.str_of
  · cases h
theorem KVD.mono (e : Ex B B') : ∀ {kvs : List (Key × V)} {ds : List (PyData × PyData)}, KVD K B kvs ds → KVD K B' kvs ds
  | _, _, .nil => .nil
  | _, _, .cons h t => .cons ⟨h.1, dp_mono e h.2⟩ (KVD.mono e t)
theorem KVD.length : ∀ {kvs : List (Key × V)} {ds : List (PyData × PyData)}, KVD K B kvs ds → kvs.length = ds.length
  | _, _, .nil => rfl
  | _, _, .cons _ t => congrArg (· + 1) (KVD.length t)
theorem KVD.any (hk : keyD kd = some (nkey k)) : ∀ {kvs : List (Key × V)} {ds : List (PyData × PyData)}, KVD K B kvs ds → (kvs.any fun kv => decide (kv.1 = k)) = ds.any fun d => decide (keyD d.1 = keyD kd)
  | _, _, .nil => rfl
  | x :: _, d :: _, .cons h t => by
    rw [List.any_cons, List.any_cons, KVD.any hk t]
    congr 1
    rw [h.1, hk]
    by_cases c : x.1 = k
    · rw [decide_eq_true c, c]
      simp
    · rw [decide_eq_false c, decide_eq_false]
      intro z
      exact c (nkey_inj (Option.some.inj z))
theorem KVD.repl (hk : keyD kd = some (nkey k)) (hv : Dq K B v vd) : ∀ {kvs : List (Key × V)} {ds : List (PyData × PyData)}, KVD K B kvs ds → KVD K B (kvs.map fun kv => if kv.1 = k then (kv.1, v) else kv) (ds.map fun d => if keyD d.1 = keyD kd then (d.1, vd) else d)
  | _, _, .nil => .nil
  | x :: _, d :: _, .cons h t => by
    rw [List.map_cons, List.map_cons]
    refine .cons ?_ (KVD.repl hk hv t)
    by_cases c : x.1 = k
    · rw [if_pos c, if_pos (by rw [h.1, hk, c])]
      exact ⟨h.1, hv⟩
    · rw [if_neg c, if_neg (by rw [h.1, hk]; exact fun z => c (nkey_inj (Option.some.inj z)))]
      exact h
theorem KVD.put {kvs : List (Key × V)} {ds : List (PyData × PyData)} (h : KVD K B kvs ds) (hk : keyD kd = some (nkey k)) (hv : Dq K B v vd) : KVD K B (putK kvs k v) (putD ds kd vd) := by
  unfold putK putD
  rw [h.any hk]
  by_cases c : (ds.any fun d => decide (keyD d.1 = keyD kd)) = true
  · rw [if_pos c, if_pos c]
    exact h.repl hk hv
  · rw [if_neg c, if_neg c]
    exact Paired.snoc h ⟨hk, hv⟩
theorem KVD.dqF {a : Addr} {kvs : List (Key × V)} {ds : List (PyData × PyData)} (hne : kvs ≠ []) (ha : Rd B a (.dK kvs)) (h : KVD K B kvs ds) : Dq K B (.ref a) (.dict ds) := by
  refine .dic (.inr ⟨kvs, hne, ha, rfl⟩) ?_ ?_
  · rw [List.map_map]
    clear ha hne
    induction h with
    | nil => rfl
    | cons h t ih =>
      rw [List.map_cons, List.map_cons, ih, h.1]
      rfl
  · rw [List.map_map]
    clear ha hne
    induction h with
    | nil => exact .nil
    | cons h t ih => exact .cons h.2 ih
theorem KVD.dq {a : Addr} {kvs : List (Key × V)} {ds : List (PyData × PyData)} (hne : kvs ≠ []) (ha : B a = some (.dK kvs)) (h : KVD K B kvs ds) : Dq K B (.ref a) (.dict ds) := KVD.dqF hne (.inl ha) h
theorem putD_len (ds : List (PyData × PyData)) (k v : PyData) : (putD ds k v).length ≤ ds.length + 1 := by
  unfold putD
  split
  · rw [List.length_map]
    omega
  · rw [List.length_append]
    exact Nat.le_refl _
end

def KN (K : PySem.W.Frag) (B : Hp) : List (NestedKey × V) → List (PyData × PyData) → Prop := Paired fun x d => keyD d.1 = some x.1 ∧ Dq K B x.2 d.2
section
variable {K : PySem.W.Frag} {B B' : Hp} {v : V} {k : NestedKey} {kd vd : PyData}
theorem KN.any (hk : keyD kd = some k) : ∀ {kvs : List (NestedKey × V)} {ds : List (PyData × PyData)}, KN K B kvs ds → (kvs.any fun kv => decide (kv.1 = k)) = ds.any fun d => decide (keyD d.1 = keyD kd)
  | _, _, .nil => rfl
  | x :: _, d :: _, .cons h t => by
    rw [List.any_cons, List.any_cons, KN.any hk t]
    congr 1
    rw [h.1, hk]
    by_cases c : x.1 = k
    · rw [decide_eq_true c, c]
      simp
    · rw [decide_eq_false c, decide_eq_false]
      exact fun z => c (Option.some.inj z)
theorem KN.repl (hk : keyD kd = some k) (hv : Dq K B v vd) : ∀ {kvs : List (NestedKey × V)} {ds : List (PyData × PyData)}, KN K B kvs ds → KN K B (kvs.map fun kv => if kv.1 = k then (kv.1, v) else kv) (ds.map fun d => if keyD d.1 = keyD kd then (d.1, vd) else d)
  | _, _, .nil => .nil
  | x :: _, d :: _, .cons h t => by
    rw [List.map_cons, List.map_cons]
    refine .cons ?_ (KN.repl hk hv t)
    by_cases c : x.1 = k
    · rw [if_pos c, if_pos (by rw [h.1, hk, c])]
      exact ⟨h.1, hv⟩
    · rw [if_neg c, if_neg (by rw [h.1, hk]; exact fun z => c (Option.some.inj z))]
      exact h
theorem KN.put {kvs : List (NestedKey × V)} {ds : List (PyData × PyData)} (h : KN K B kvs ds) (hk : keyD kd = some k) (hv : Dq K B v vd) : KN K B (putK kvs k v) (putD ds kd vd) := by
  unfold putK putD
  rw [h.any hk]
  by_cases c : (ds.any fun d => decide (keyD d.1 = keyD kd)) = true
  · rw [if_pos c, if_pos c]
    exact h.repl hk hv
  · rw [if_neg c, if_neg c]
    exact Paired.snoc h ⟨hk, hv⟩
theorem KN.mono (e : Ex B B') : ∀ {kvs : List (NestedKey × V)} {ds : List (PyData × PyData)}, KN K B kvs ds → KN K B' kvs ds
  | _, _, .nil => .nil
  | _, _, .cons h t => .cons ⟨h.1, dp_mono e h.2⟩ (KN.mono e t)
theorem KN.keys : ∀ {kvs : List (NestedKey × V)} {ds : List (PyData × PyData)}, KN K B kvs ds → (ds.map fun d => keyD d.1) = (kvs.map fun x => some x.1)
  | _, _, .nil => rfl
  | _, _, .cons h t => by rw [List.map_cons, List.map_cons, h.1, KN.keys t]
theorem KN.vals : ∀ {kvs : List (NestedKey × V)} {ds : List (PyData × PyData)}, KN K B kvs ds → DqAll K B (kvs.map (·.2)) (ds.map (·.2))
  | _, _, .nil => .nil
  | _, _, .cons h t => .cons h.2 (KN.vals t)
end
end Fd
namespace Fd
open PySem PySem.Spec PyProof.Rows L2 Evl Tb
/-- the entries of a dict of one's own whose keys are flat tuples -/
def OwnT (K : PySem.W.Frag) (B : Hp) (es : Array DictEntry) (kvs : List (NestedKey × V)) : Prop := ∃ ys : List (NestedKey × Addr × Value), (∀ (P : Program) (w : World), es.toList = ys.map (entryOfKey (nestedKind P w))) ∧ (ys.map (·.1)).Nodup ∧ EntR K B ys kvs ∧ es.size = ys.length
/-- the object at p is a dict that holds these -/
def OwnD (K : PySem.W.Frag) (B : Hp) (p : Addr) (o : HO) (ds : List (PyData × PyData)) : Prop :=
  (∃ ks : List (Key × V), o = .dK ks ∧ KVD K B ks ds ∧ ks ≠ []) ∨ ((p == sysModules) = false ∧ ds.length ≤ sizeLine ∧ ∃ es ep kvs, o = DicO p es ep ∧ OwnT K B es kvs ∧ KN K B kvs ds)
section
variable {K : PySem.W.Frag} {B B' : Hp} {p : Addr} {o : HO} {ds : List (PyData × PyData)}
theorem dq_empty (K : PySem.W.Frag) {B : Hp} {a : Addr} {ep : Nat} (h0 : (a == sysModules) = false) (ha : B a = some (DicO a #[] ep)) : Dq K B (.ref a) (.dict []) :=
  .dic (kvs := []) (.inl ⟨h0, #[], ep, ha, Nat.zero_le _, [], fun _ _ => rfl, List.nodup_nil, .nil⟩) rfl .nil
theorem EntR.mono {H H' : Hp} (e : Ex H H') : ∀ {ys : List (NestedKey × Addr × Value)} {kvs : List (NestedKey × V)}, EntR K H ys kvs → EntR K H' ys kvs
  | _, _, .nil => .nil
  | _, _, .cons h t => .cons ⟨⟨h.1.1, h.1.2.1.mono e, h.1.2.2⟩, h.2⟩ (EntR.mono e t)
theorem OwnT.mono {es : Array DictEntry} {kvs : List (NestedKey × V)} (e : Ex B B') (h : OwnT K B es kvs) : OwnT K B' es kvs := by
  obtain ⟨ys, h1, h2, h3, h4⟩ := h
  exact ⟨ys, h1, h2, EntR.mono e h3, h4⟩
theorem OwnD.mono (e : Ex B B') (h : OwnD K B p o ds) : OwnD K B' p o ds := by
  rcases h with ⟨ks, h1, h2, hne⟩ | ⟨h0, h2, es, ep, kvs, h3, h4, h5⟩
  · exact .inl ⟨ks, h1, h2.mono e, hne⟩
  · exact .inr ⟨h0, h2, es, ep, kvs, h3, h4.mono e, h5.mono e⟩
theorem OwnD.nl {vs : List V} (h : OwnD K B p o ds) : o ≠ .lst vs := by
  rcases h with ⟨ks, h1, h2, hne⟩ | ⟨h0, h2, es, ep, kvs, h3, h4, h5⟩
  · rw [h1]
    exact fun z => nomatch z
  · rw [h3]
    exact fun z => nomatch z
theorem KN.length : ∀ {kvs : List (NestedKey × V)} {ds : List (PyData × PyData)}, KN K B kvs ds → kvs.length = ds.length
  | _, _, .nil => rfl
  | _, _, .cons _ t => congrArg (· + 1) (KN.length t)
theorem EntR.length {H : Hp} : ∀ {ys : List (NestedKey × Addr × Value)} {kvs : List (NestedKey × V)}, EntR K H ys kvs → ys.length = kvs.length
  | _, _, .nil => rfl
  | _, _, .cons _ t => congrArg (· + 1) (EntR.length t)
/-- it becomes data -/
theorem OwnD.dq (h : OwnD K B p o ds) (hB : B p = some o) : Dq K B (.ref p) (.dict ds) := by
  rcases h with ⟨ks, h1, h2, hne⟩ | ⟨h0, h2, es, ep, kvs, h3, ⟨ys, k1, k2, k3, k4⟩, h5⟩
  · subst h1
    exact KVD.dq hne hB h2
  · subst h3
    refine .dic (.inl ⟨h0, es, ep, hB, ?_, ys, k1, k2, k3.tup⟩) h5.keys h5.vals
    rw [k4, k3.length, h5.length]
    exact h2
end
end Fd
end

section
set_option Elab.async false
set_option linter.all false
set_option maxRecDepth 100000
set_option maxHeartbeats 1000000
/-! Base i: tuples whose objects are known (they have no dict): displays, slices, sums, tuple(x). -/
namespace L2
open PySem PySem.Spec PyProof.Rows Evl
section
variable {X : Cx}
def tTupZ (t : TA) : TE := fun σ H Q => t σ H fun xs H1 => xs.length ≤ sizeLine ∧ ∀ p o, H1 p = none → o.cls = .type "tuple" → o.dict = none → Q (.ref p) (upd H1 p (.frz o (.tup xs)))
theorem pe_tupZ {es : List Expr} {t : TA} {pos : Pos} {x1} (h : PA X es t) : PE X (.Tuple es x1 pos) (tTupZ t) := by
  refine ⟨fun pins s σ H Q I hq => ?_⟩
  refine wpAny_Tuple_spliced (thn (h.run pos pins s σ H _ I hq) fun us s1 ⟨xs, H1, I1, r, z, q⟩ => ⟨by rw [← r.length]; exact z, ?_⟩)
  have hf : H1 s1.heap.objs.size = none := I1.hok.fresh (Nat.le_refl _)
  have hget : (s1.heap.push { cls := .type "tuple", data := .seq us.toArray }).get? s1.heap.objs.size = some { cls := .type "tuple", data := .seq us.toArray } := Heap.get?_push_size _ rfl
  refine ⟨.ref s1.heap.objs.size, upd H1 s1.heap.objs.size (.frz { cls := .type "tuple", data := .seq us.toArray } (.tup xs)), I1.laid (t' := s1.toks) (fun b u e => Heap.get?_push_of_some _ e) (Nat.le_refl _) ?_, rfl, q _ _ hf rfl rfl⟩
  exact (show ObjOk X.prog X.w _ _ _ (.frz _ (.tup xs)) from ⟨hget, z, us, r, ⟨_, hget, rfl, _, rfl⟩⟩)
/-- t + u: where one is empty, the other one itself -/
def rCatZ (K : PySem.W.Frag) : R2 := fun x y H Q => ∃ a b xs ys, x = .ref a ∧ y = .ref b ∧ SqT K H a xs ∧ SqT K H b ys ∧ xs.length + ys.length ≤ sizeLine ∧
  (xs = [] → Q (.ref b) H) ∧ (xs ≠ [] → ys = [] → Q (.ref a) H) ∧ (xs ≠ [] → ys ≠ [] → ∀ p o, H p = none → o.cls = .type "tuple" → o.dict = none → Q (.ref p) (upd H p (.frz o (.tup (xs ++ ys)))))
theorem op_catZ : OpR X (binaryOp .Add) (rCatZ X.K) := by
  intro pins s σ H x y v u Q I rx ry h
  obtain ⟨a, b, xs, ys, rfl, rfl, ha, hb, hz, q0, q1, q2⟩ := h
  cases rx
  cases ry
  obtain ⟨its, r1, p1, _⟩ := I.tuple ha
  obtain ⟨its2, r2, p2, _⟩ := I.tuple hb
  by_cases hx : xs = []
  · subst hx
    cases r1
    exact cat_tup0 p1 p2 ⟨.ref b, H, I, rfl, q0 rfl⟩
  · refine HT.cat_tup p1 p2 (fun z => hx (r1.nil_iff.mp z)) (fun z => ⟨.ref a, H, I, rfl, q1 hx (r2.nil_iff.mp z)⟩) (fun z => ?_) (by rw [← r1.length, ← r2.length]; exact hz)
    refine ⟨.ref s.heap.objs.size, _, I.laid (t' := s.toks) (o := .frz { cls := .type "tuple", data := .seq (its ++ its2).toArray } (.tup (xs ++ ys))) (fun b ob q => Heap.get?_push_of_some _ q) (Nat.le_refl _) ?_, rfl, q2 hx (fun w => z (r2.nil_iff.mpr w)) _ _ (I.hok.fresh (Nat.le_refl _)) rfl rfl⟩
    exact ⟨Heap.get?_push_size _ rfl, by rw [List.length_append]; exact hz, _, r1.append r2, IsTup.new _ _⟩
/-- t[lo:hi]: the whole of it is t itself -/
def rSlZ (K : PySem.W.Frag) : V → Option Int → Option Int → Hp → VK → Prop := fun x lo hi H Q => ∃ a xs, x = .ref a ∧ SqT K H a xs ∧
  (HT.sIx xs.length 0 lo = 0 ∧ HT.sIx xs.length xs.length hi = xs.length → Q (.ref a) H) ∧ (¬ (HT.sIx xs.length 0 lo = 0 ∧ HT.sIx xs.length xs.length hi = xs.length) → ∀ p o, H p = none → o.cls = .type "tuple" → o.dict = none → Q (.ref p) (upd H p (.frz o (.tup (cutV xs lo hi)))))
theorem sl_tupZ : SlR X (rSlZ X.K) := by
  intro pins s σ H x v vl vu lo hi sl Q I rx hs pl pu h
  obtain ⟨a, xs, rfl, hx, q1, q2⟩ := h
  cases rx
  obtain ⟨its, r, ht, hz⟩ := I.tuple hx
  have hlen : its.toArray.size = xs.length := by rw [List.size_toArray]; exact r.length.symm
  refine ⟨"tuple", _, PyProof.Rows.slot_tuple_getitem.lookup, ht.typeIs, ?_⟩
  by_cases hw : HT.sIx xs.length 0 lo = 0 ∧ HT.sIx xs.length xs.length hi = xs.length
  · exact getItem_tuple_whole ht hs pl pu (by rw [hlen]; exact hw) ⟨.ref a, H, I, rfl, q1 hw⟩
  · refine HT.getItem_tuple_cut ht hs pl pu (by rw [hlen]; exact hw) ?_ (by rw [hlen]; exact hz)
    rw [hlen]
    refine ⟨.ref s.heap.objs.size, _, I.laid (t' := s.toks) (o := .frz { cls := .type "tuple", data := .seq ((its.toArray.toList.drop (HT.sIx xs.length 0 lo)).take (HT.sIx xs.length xs.length hi - HT.sIx xs.length 0 lo)).toArray } (.tup (cutV xs lo hi))) (fun b ob q => Heap.get?_push_of_some _ q) (Nat.le_refl _) ?_, rfl, q2 hw _ _ (I.hok.fresh (Nat.le_refl _)) rfl rfl⟩
    exact ⟨Heap.get?_push_size _ rfl, Nat.le_trans (cutV_length xs lo hi) hz, _, (r.drop (HT.sIx xs.length 0 lo)).take (HT.sIx xs.length xs.length hi - HT.sIx xs.length 0 lo), IsTup.new _ _⟩
end
end L2
end

section
set_option Elab.async false
set_option linter.all false
set_option maxRecDepth 100000
set_option maxHeartbeats 1000000
/-! Base j: the program and the world that one speaks of (sets of texts need them), and sets of one's own. -/
namespace Fd
open PySem PySem.Spec PyProof.Rows L2 Evl Tb
/-- which program, which world -/
class Uw where
  P : Program
  w : World
/-- the keys of a set, one's own or told -/
def keysU (xs : List PyData) : List Key := xs.filterMap keyI
/-- the object at p is a set with these members -/
def OwnU [Uw] (p : Addr) (o : HO) (xs : List PyData) : Prop := ∃ (S : Key → Bool) (n : Nat), o = SetK Uw.P Uw.w p S n ∧ (∀ k, S k = true ↔ k ∈ keysU xs) ∧ n ≤ xs.length
end Fd
end

section
set_option Elab.async false
set_option linter.all false
set_option maxRecDepth 100000
set_option maxHeartbeats 1000000
/-! Walks by meaning 1: what a def's slots hold, and how one step leads to the next. -/
variable [Fd.Uw]
namespace Fd
open PySem PySem.Spec PyProof.Rows L2 Evl Tb

/-- what a slot holds: nothing, data, a list of one's own, a list that was handed in to be changed -/
inductive Sl where
  | no
  | d (x : PyData)
  | o (xs : List PyData)
  | p (xs : List PyData)
  | q (ds : List (PyData × PyData))
  | u (xs : List PyData)
abbrev En := List Sl
/-- what an object of one's own holds: a list's items, a dict's keys and values -/
inductive Cn where
  | l (xs : List PyData)
  | q (ds : List (PyData × PyData))
  | u (xs : List PyData)
def Sl.own : Sl → Option Cn
  | .o xs => some (.l xs)
  | .p xs => some (.l xs)
  | .q ds => some (.q ds)
  | .u xs => some (.u xs)
  | _ => none
/-- the object at p holds this -/
def CnO (K : PySem.W.Frag) (B : Hp) (p : Addr) (o : HO) : Cn → Prop
  | .l xs => ∃ vs, o = .lst vs ∧ DqAll K B vs xs
  | .q ds => OwnD K B p o ds
  | .u xs => OwnU p o xs
theorem cn_mono {K : PySem.W.Frag} {B B' : Hp} {p : Addr} {o : HO} {c : Cn} (e : Ex B B') (h : CnO K B p o c) : CnO K B' p o c := by
  cases c with
  | l xs =>
    obtain ⟨vs, h1, h2⟩ := h
    exact ⟨vs, h1, dpa_mono e h2⟩
  | q ds => exact OwnD.mono e h
  | u xs => exact h
/-- as data -/
def Cn.da : Cn → PyData
  | .l xs => .list xs
  | .q ds => .dict ds
  | .u _ => .none
def Cn.isU : Cn → Bool
  | .u _ => true
  | _ => false
theorem CnO.dq {K : PySem.W.Frag} {B : Hp} {p : Addr} {o : HO} {c : Cn} (h : CnO K B p o c) (hu : c.isU = false) (hB : B p = some o) : Dq K B (.ref p) c.da := by
  cases c with
  | l xs =>
    obtain ⟨vs, h1, h2⟩ := h
    subst h1
    exact .lst (sq_of hB) h2
  | q ds => exact OwnD.dq h hB
  | u xs => cases hu
def Sl.isP : Sl → Bool
  | .p _ => true
  | _ => false
/-- b is the address of a list that the slots own -/
def Ow (σ : L2.St) (e : En) (b : Addr) : Prop := ∃ (i : Nat) (s : Sl) (xs : Cn), e[i]? = some s ∧ s.own = some xs ∧ σ[i]? = some (some (.ref b))
/-- what holds for a whole run of a def: K, what may be changed, which slots hold what was handed in -/
structure Wo where
  K : PySem.W.Frag
  M : Addr → Prop
  pn : Nat → Option Addr
structure At (W : Wo) (σ : L2.St) (e : En) (B H : Hp) : Prop where
  ex : Ex B H
  nm : ∀ b, H b = none → W.M b
  len : σ.length = e.length
  dat : ∀ (i : Nat) x, e[i]? = some (.d x) → ∃ v, σ[i]? = some (some v) ∧ Dq W.K B v x
  own : ∀ (i : Nat) s xs, e[i]? = some s → s.own = some xs → ∃ p vs, σ[i]? = some (some (.ref p)) ∧ W.M p ∧ B p = none ∧ H p = some vs ∧ CnO W.K B p vs xs
  sep : ∀ (i j : Nat) s t (p : Addr) xs ys, e[i]? = some s → s.own = some xs → e[j]? = some t → t.own = some ys → σ[i]? = some (some (.ref p)) → σ[j]? = some (some (.ref p)) → i = j
  pin : ∀ (i : Nat) a, W.pn i = some a → (∃ xs, e[i]? = some (.p xs)) ∧ σ[i]? = some (some (.ref a))
/-- growth where only the addresses of M may change -/
structure Go (M : Addr → Prop) (B H B' H' : Hp) : Prop where
  hg : Ex B B'
  fr : ∀ b o, ¬ M b → H b = some o → H' b = some o
  dm : ∀ b, H' b = none → H b = none
  sp : ∀ b, ¬ M b → B b = none → H b ≠ none → B' b = none
theorem Go.refl (M : Addr → Prop) (B H : Hp) : Go M B H B H := ⟨Ex.refl B, fun _ _ _ h => h, fun _ h => h, fun _ _ h _ => h⟩
theorem Go.trans {M : Addr → Prop} {B H B1 H1 B2 H2 : Hp} (a : Go M B H B1 H1) (b : Go M B1 H1 B2 H2) : Go M B H B2 H2 :=
  ⟨a.hg.trans b.hg, fun x o hx h => b.fr x o hx (a.fr x o hx h), fun x h => a.dm x (b.dm x h), fun x h0 h1 h2 => b.sp x h0 (a.sp x h0 h1 h2) fun z => h2 (a.dm x z)⟩
theorem Go.mono {M N : Addr → Prop} {B H B1 H1 : Hp} (h : ∀ b, M b → N b) (a : Go M B H B1 H1) : Go N B H B1 H1 := ⟨a.hg, fun b o hb => a.fr b o fun z => hb (h b z), a.dm, fun b hb => a.sp b fun z => hb (h b z)⟩
theorem Go.gr {M : Addr → Prop} {B H G H2 : Hp} (g : Gr B H G H2) : Go M B H G H2 := ⟨g.hg, fun b o _ h => g.h12 b o h, fun b h => fresh_back g.h12 h, fun b _ => g.sep b⟩
theorem Go.ex {M : Addr → Prop} {B H B' H2 : Hp} (g : Go (fun _ => False) B H B' H2) : Ex H H2 := fun b o h => g.fr b o (fun z => z) h
/-- one step of an expression: e' is what the slots hold behind it -/
structure Gx (σ : L2.St) (e : En) (B H : Hp) (e' : En) (B' H' : Hp) : Prop where
  go : Go (Ow σ e) B H B' H'
  ow : ∀ b, Ow σ e' b → Ow σ e b
theorem Gx.refl (σ : L2.St) (e : En) (B H : Hp) : Gx σ e B H e B H := ⟨.refl _ _ _, fun _ h => h⟩
theorem Gx.trans {σ : L2.St} {e e1 e2 : En} {B H B1 H1 B2 H2 : Hp} (a : Gx σ e B H e1 B1 H1) (b : Gx σ e1 B1 H1 e2 B2 H2) : Gx σ e B H e2 B2 H2 := ⟨a.go.trans (b.go.mono a.ow), fun x h => a.ow x (b.ow x h)⟩
section
variable {W : Wo} {σ : L2.St} {e e' : En} {B H B' H' : Hp}
theorem At.ow (a : At W σ e B H) {b : Addr} (h : Ow σ e b) : W.M b ∧ H b ≠ none ∧ B b = none := by
  obtain ⟨i, s, xs, h1, h2, h3⟩ := h
  obtain ⟨p, vs, g1, g2, g3, g4, _⟩ := a.own i s xs h1 h2
  rw [h3] at g1
  cases g1
  exact ⟨g2, (by rw [g4]; exact fun z => nomatch z), g3⟩
theorem At.goM (a : At W σ e B H) (g : Gx σ e B H e' B' H') : Go W.M B H B' H' := g.go.mono fun b h => (a.ow h).1
/-- nothing of one's own changes, and what is known grows -/
theorem At.gr (a : At W σ e B H) (g : Gr B H B' H') : At W σ e B' H' where
  ex := g.g2
  nm := fun b h => a.nm b (fresh_back g.h12 h)
  len := a.len
  dat := fun i x h => by
    obtain ⟨v, h1, h2⟩ := a.dat i x h
    exact ⟨v, h1, dp_mono g.hg h2⟩
  own := fun i s xs h1 h2 => by
    obtain ⟨p, vs, g1, g2, g3, g4, g5⟩ := a.own i s xs h1 h2
    exact ⟨p, vs, g1, g2, g.sep p g3 (by rw [g4]; exact fun z => nomatch z), g.h12 _ _ g4, cn_mono g.hg g5⟩
  sep := a.sep
  pin := a.pin
/-- a list of one's own -/
theorem At.ownl (a : At W σ e B H) {i : Nat} {s : Sl} {xs : List PyData} (h1 : e[i]? = some s) (h2 : s.own = some (.l xs)) : ∃ p vs, σ[i]? = some (some (.ref p)) ∧ W.M p ∧ B p = none ∧ H p = some (.lst vs) ∧ DqAll W.K B vs xs := by
  obtain ⟨p, o, g1, g2, g3, g4, vs, rfl, g5⟩ := a.own i s _ h1 h2
  exact ⟨p, vs, g1, g2, g3, g4, g5⟩
theorem gx_gr (g : Gr B H B' H') : Gx σ e B H e B' H' := ⟨.gr g, fun _ h => h⟩
end

/-! ### what an expression means -/
abbrev Dn (α : Type) := En → Option (α × En)
def SE (K : PySem.W.Frag) (te : TE) (f : Dn PyData) : Prop := ∀ (W : Wo), W.K = K → ∀ (σ : L2.St) (e : En) (B H : Hp), At W σ e B H → ∀ d e', f e = some (d, e') →
  ∀ Q : VK, (∀ v B' H', At W σ e' B' H' → Gx σ e B H e' B' H' → Dq K B' v d → Q v H') → te σ H Q
/-- a new list -/
def SL (K : PySem.W.Frag) (te : TE) (f : Dn (List PyData)) : Prop := ∀ (W : Wo), W.K = K → ∀ (σ : L2.St) (e : En) (B H : Hp), At W σ e B H → ∀ ds e', f e = some (ds, e') →
  ∀ Q : VK, (∀ p vs B' H', At W σ e' B' H' → Gx σ e B H e' B' H' → H p = none → H' p = some (.lst vs) → B' p = none → DqAll K B' vs ds → Q (.ref p) H') → te σ H Q
def ST (K : PySem.W.Frag) (tt : TT) (f : Dn Bool) : Prop := ∀ (W : Wo), W.K = K → ∀ (σ : L2.St) (e : En) (B H : Hp), At W σ e B H → ∀ b e', f e = some (b, e') →
  ∀ Q : Bool → Hp → Prop, (∀ B' H', At W σ e' B' H' → Gx σ e B H e' B' H' → Q b H') → tt σ H Q
def SA (K : PySem.W.Frag) (ta : TA) (f : Dn (List PyData)) : Prop := ∀ (W : Wo), W.K = K → ∀ (σ : L2.St) (e : En) (B H : Hp), At W σ e B H → ∀ ds e', f e = some (ds, e') →
  ∀ Q : List V → Hp → Prop, (∀ vs B' H', At W σ e' B' H' → Gx σ e B H e' B' H' → DqAll K B' vs ds → Q vs H') → ta σ H Q

/-! ### meanings put together -/
def dK {α : Type} (x : α) : Dn α := fun e => some (x, e)
def dBind {α β : Type} (f : Dn α) (g : α → Dn β) : Dn β := fun e => match f e with
  | some (x, e1) => g x e1
  | none => none
def dLift {α : Type} (o : Option α) : Dn α := fun e => match o with
  | some x => some (x, e)
  | none => none
/-- a slot that is read as data: a list of one's own does not change any more -/
def dVar (i : Nat) : Dn PyData := fun e => match e[i]? with
  | some (.d x) => some (x, e)
  | some (.o xs) => some (.list xs, e.set i (.d (.list xs)))
  | some (.q xs) => some (.dict xs, e.set i (.d (.dict xs)))
  | _ => none
def dOp (F : PyData → PyData → Option PyData) (f g : Dn PyData) : Dn PyData := dBind f fun x => dBind g fun y => dLift (F x y)
def dUn (F : PyData → Option PyData) (f : Dn PyData) : Dn PyData := dBind f fun x => dLift (F x)
def dCons (f : Dn PyData) (g : Dn (List PyData)) : Dn (List PyData) := dBind f fun x => dBind g fun xs => dK (x :: xs)
def dIf {α : Type} (c : Dn Bool) (f g : Dn α) : Dn α := dBind c fun b => if b = true then f else g
def dAnd (f g : Dn PyData) : Dn PyData := dBind f fun x => match x with
  | .bool true => dBind g fun y => match y with
    | .bool b => dK (.bool b)
    | _ => fun _ => none
  | .bool false => dK (.bool false)
  | _ => fun _ => none
def dOr (f g : Dn PyData) : Dn PyData := dBind f fun x => match x with
  | .bool false => dBind g fun y => match y with
    | .bool b => dK (.bool b)
    | _ => fun _ => none
  | .bool true => dK (.bool true)
  | _ => fun _ => none
def dNot (f : Dn PyData) : Dn PyData := dBind f fun x => match x with
  | .bool b => dK (.bool (!b))
  | _ => fun _ => none
def dTest (f : Dn PyData) : Dn Bool := dBind f fun x => match x with
  | .bool b => dK b
  | _ => fun _ => none
def dAndT (f g : Dn Bool) : Dn Bool := dBind f fun b => if b = true then g else dK false
def dOrT (f g : Dn Bool) : Dn Bool := dBind f fun b => if b = true then dK true else g
def dNotT (f : Dn Bool) : Dn Bool := dBind f fun b => dK (!b)
def small (ds : List PyData) : Bool := decide (ds.length ≤ 100000)
def dTup (f : Dn (List PyData)) : Dn PyData := dBind f fun ds => if small ds = true then dK (.tuple ds) else fun _ => none
def dLst (f : Dn (List PyData)) : Dn (List PyData) := dBind f fun ds => if small ds = true then dK ds else fun _ => none
def dFz (f : Dn (List PyData)) : Dn PyData := dBind f fun ds => dK (.list ds)
theorem dBind_some {α β : Type} {f : Dn α} {g : α → Dn β} {e : En} {r : β × En} (h : dBind f g e = some r) : ∃ x e1, f e = some (x, e1) ∧ g x e1 = some r := by
  unfold dBind at h
  split at h
  · rename_i x e1 he
    exact ⟨x, e1, he, h⟩
  · cases h
theorem dLift_some {α : Type} {o : Option α} {e : En} {x : α} {e1 : En} (h : dLift o e = some (x, e1)) : o = some x ∧ e1 = e := by
  unfold dLift at h
  split at h
  · cases h
    exact ⟨rfl, rfl⟩
  · cases h
theorem dK_some {α : Type} {x y : α} {e e1 : En} (h : dK x e = some (y, e1)) : x = y ∧ e1 = e := by
  cases h
  exact ⟨rfl, rfl⟩

section
variable {K : PySem.W.Frag} {ta tb te tc : TE} {t u : TT} {f g : Dn PyData} {c c2 : Dn Bool} {r : R2} {F : PyData → PyData → Option PyData}
theorem se_op (hr : ∀ B x y z, F x y = some z → RD K r x y B z) (ha : SE K ta f) (hb : SE K tb g) : SE K (tOp r ta tb) (dOp F f g) := fun W hW σ e B H a d e' h Q q => by
  obtain ⟨x, e1, h1, h⟩ := dBind_some h
  obtain ⟨y, e2, h2, h⟩ := dBind_some h
  obtain ⟨h3, rfl⟩ := dLift_some h
  refine ha W hW σ e B H a x e1 h1 _ fun v1 B1 H1 a1 g1 d1 => hb W hW σ e1 B1 H1 a1 y e' h2 _ fun v2 B2 H2 a2 g2 d2 => ?_
  refine hr B2 x y d h3 v1 v2 H2 a2.ex (dp_mono g2.go.hg d1) d2 Q fun v G H3 g3 hd => q v G H3 (a2.gr g3) ((g1.trans g2).trans (gx_gr g3)) hd
theorem se_un {r : V → Hp → VK → Prop} {F : PyData → Option PyData} (hr : ∀ B x z, F x = some z → RUD K r x B z) (ha : SE K ta f) : SE K (tUn r ta) (dUn F f) := fun W hW σ e B H a d e' h Q q => by
  obtain ⟨x, e1, h1, h⟩ := dBind_some h
  obtain ⟨h3, rfl⟩ := dLift_some h
  refine ha W hW σ e B H a x e' h1 _ fun v1 B1 H1 a1 g1 d1 => ?_
  refine hr B1 x d h3 v1 H1 a1.ex d1 Q fun v G H3 g3 hd => q v G H3 (a1.gr g3) (g1.trans (gx_gr g3)) hd
theorem se_c {v : V} {d : PyData} (h : ∀ B, Dq K B v d) : SE K (tC v) (dK d) := fun W hW σ e B H a d' e' h' Q q => by
  obtain ⟨rfl, rfl⟩ := dK_some h'
  exact q v B H a (.refl _ _ _ _) (h B)
theorem se_int {i : Int} : SE K (tC (.int i)) (dK (.int i)) := se_c fun _ => .int i
theorem se_bl {b : Bool} : SE K (tC (.bl b)) (dK (.bool b)) := se_c fun _ => .bl b
theorem se_str {x : Str} : SE K (tC (.str x)) (dK (.str x)) := se_c fun _ => .str x
theorem se_non : SE K (tC .non) (dK .none) := se_c fun _ => .non
theorem sa_nil : SA K tNil (dK []) := fun W hW σ e B H a d' e' h' Q q => by
  obtain ⟨rfl, rfl⟩ := dK_some h'
  exact q [] B H a (.refl _ _ _ _) .nil
theorem sa_cons {tr : TA} {k : Dn (List PyData)} (ha : SE K ta f) (hr : SA K tr k) : SA K (tCons ta tr) (dCons f k) := fun W hW σ e B H a d e' h Q q => by
  obtain ⟨x, e1, h1, h⟩ := dBind_some h
  obtain ⟨xs, e2, h2, h⟩ := dBind_some h
  obtain ⟨rfl, rfl⟩ := dK_some h
  refine ha W hW σ e B H a x e1 h1 _ fun v1 B1 H1 a1 g1 d1 => hr W hW σ e1 B1 H1 a1 xs e' h2 _ fun vs B2 H2 a2 g2 d2 => ?_
  exact q (v1 :: vs) B2 H2 a2 (g1.trans g2) (.cons (dp_mono g2.go.hg d1) d2)
theorem se_cb {r : List V → Hp → VK → Prop} {tr : TA} {k : Dn (List PyData)} {F : List PyData → Option PyData} (hr : ∀ B ds z, F ds = some z → RCD K r ds B z) (ha : SA K tr k) : SE K (tCB r tr) (dBind k fun ds => dLift (F ds)) := fun W hW σ e B H a d e' h Q q => by
  obtain ⟨x, e1, h1, h⟩ := dBind_some h
  obtain ⟨h3, rfl⟩ := dLift_some h
  refine ha W hW σ e B H a x e' h1 _ fun v1 B1 H1 a1 g1 d1 => ?_
  refine hr B1 x d h3 v1 H1 a1.ex d1 Q fun v G H3 g3 hd => q v G H3 (a1.gr g3) (g1.trans (gx_gr g3)) hd
theorem sl_cb {r : List V → Hp → VK → Prop} {tr : TA} {k : Dn (List PyData)} {F : List PyData → Option (List PyData)} (hr : ∀ B ds z, F ds = some z → RCDL K r ds B z) (ha : SA K tr k) : SL K (tCB r tr) (dBind k fun ds => dLift (F ds)) := fun W hW σ e B H a d e' h Q q => by
  obtain ⟨x, e1, h1, h⟩ := dBind_some h
  obtain ⟨h3, rfl⟩ := dLift_some h
  refine ha W hW σ e B H a x e' h1 _ fun v1 B1 H1 a1 g1 d1 => ?_
  refine hr B1 x d h3 v1 H1 a1.ex d1 Q fun p vs G H3 g0 h0 g3 hp hd => q p vs G H3 (a1.gr g3) (g1.trans (gx_gr g3)) (g1.go.dm p h0) hp g0 hd
/-- a new list becomes data -/
theorem At.fz {W : Wo} {σ : L2.St} {e : En} {B H : Hp} {p : Addr} {vs : List V} (a : At W σ e B H) (hp : H p = some (.lst vs)) (h0 : B p = none) (no : ¬ Ow σ e p) : At W σ e (upd B p (.lst vs)) H where
  ex := fun b o h => by
    by_cases c : b = p
    · subst c
      rw [upd_same] at h
      cases h
      exact hp
    · rw [upd_ne c] at h
      exact a.ex b o h
  nm := a.nm
  len := a.len
  dat := fun i x h => by
    obtain ⟨v, h1, h2⟩ := a.dat i x h
    exact ⟨v, h1, dp_mono (Ex.new h0) h2⟩
  own := fun i s xs h1 h2 => by
    obtain ⟨q, vs, g1, g2, g3, g4, g5⟩ := a.own i s xs h1 h2
    have qp : q ≠ p := fun z => by
      subst z
      exact no ⟨i, s, xs, h1, h2, g1⟩
    exact ⟨q, vs, g1, g2, by rw [upd_ne qp]; exact g3, g4, cn_mono (Ex.new h0) g5⟩
  sep := a.sep
  pin := a.pin
theorem se_fz {k : Dn (List PyData)} (h : SL K te k) : SE K te (dFz k) := fun W hW σ e B H a d e' h' Q q => by
  obtain ⟨x, e1, h1, h2⟩ := dBind_some h'
  obtain ⟨rfl, rfl⟩ := dK_some h2
  refine h W hW σ e B H a x e' h1 _ fun p vs B1 H1 a1 g1 p0 hp pB hd => ?_
  have no : ¬ Ow σ e' p := fun z => (a.ow (g1.ow p z)).2.1 p0
  refine q _ _ _ (a1.fz hp pB no) ⟨⟨g1.go.hg.trans (Ex.new pB), g1.go.fr, g1.go.dm, fun b hn hb hh => ?_⟩, g1.ow⟩ (.lst (sq_of upd_same) (dpa_mono (Ex.new pB) hd))
  by_cases c : b = p
  · subst c
    exact absurd p0 hh
  · rw [upd_ne c]
    exact g1.go.sp b hn hb hh
end

section
variable {K : PySem.W.Frag} {ta tb te tc : TE} {t u : TT} {f g : Dn PyData} {c c2 : Dn Bool}
theorem getElem?_set_eq {α : Type} {l : List α} {i : Nat} {x y : α} (h : l[i]? = some x) : (l.set i y)[i]? = some y := by
  rw [List.getElem?_set_self (List.getElem?_eq_some_iff.mp h).1]
/-- a list of one's own becomes data where it stands -/
theorem At.fzAtC {W : Wo} {σ : L2.St} {e : En} {B H : Hp} {i : Nat} {so : Sl} {xs : Cn} (a : At W σ e B H) (hi : e[i]? = some so) (ho : so.own = some xs) (hnp : so.isP = false) (hu : xs.isU = false) : ∃ p vs, σ[i]? = some (some (.ref p)) ∧ H p = some vs ∧ B p = none ∧ CnO W.K B p vs xs ∧
    At W σ (e.set i (.d xs.da)) (upd B p vs) H ∧ Gx σ e B H (e.set i (.d xs.da)) (upd B p vs) H := by
  obtain ⟨p, vs, g1, g2, g3, g4, g5⟩ := a.own i so xs hi ho
  have hs : ∀ (j : Nat) s, (e.set i (.d xs.da))[j]? = some s → (j = i ∧ s = .d xs.da) ∨ (j ≠ i ∧ e[j]? = some s) := fun j s h => by
    by_cases c : j = i
    · subst c
      rw [getElem?_set_eq hi] at h
      cases h
      exact .inl ⟨rfl, rfl⟩
    · rw [List.getElem?_set_ne (Ne.symm c)] at h
      exact .inr ⟨c, h⟩
  have oth : ∀ (j : Nat) s ys, (e.set i (.d xs.da))[j]? = some s → s.own = some ys → j ≠ i ∧ e[j]? = some s := fun j s ys h1 h2 => by
    rcases hs j s h1 with ⟨_, rfl⟩ | h
    · cases h2
    · exact h
  refine ⟨p, vs, g1, g4, g3, g5, ⟨fun b o h => ?_, a.nm, by rw [List.length_set]; exact a.len, fun j x h => ?_, fun j s ys h1 h2 => ?_, fun j k s t q ys zs h1 h2 h3 h4 h5 h6 => ?_, fun j b hb => ?_⟩, ⟨⟨Ex.new g3, fun _ _ _ h => h, fun _ h => h, fun b hn hb hh => ?_⟩, fun b hb => ?_⟩⟩
  · by_cases c : b = p
    · subst c
      rw [upd_same] at h
      cases h
      exact g4
    · rw [upd_ne c] at h
      exact a.ex b o h
  · rcases hs j _ h with ⟨rfl, e1⟩ | ⟨_, h⟩
    · cases e1
      exact ⟨_, g1, (cn_mono (Ex.new g3) g5).dq hu upd_same⟩
    · obtain ⟨v, k1, k2⟩ := a.dat j x h
      exact ⟨v, k1, dp_mono (Ex.new g3) k2⟩
  · obtain ⟨ne, h1⟩ := oth j s ys h1 h2
    obtain ⟨q, ws, k1, k2, k3, k4, k5⟩ := a.own j s ys h1 h2
    have qp : q ≠ p := fun z => by
      subst z
      exact ne (a.sep j i s _ q ys xs h1 h2 hi ho k1 g1)
    exact ⟨q, ws, k1, k2, by rw [upd_ne qp]; exact k3, k4, cn_mono (Ex.new g3) k5⟩
  · exact a.sep j k s t q ys zs (oth j s ys h1 h2).2 h2 (oth k t zs h3 h4).2 h4 h5 h6
  · obtain ⟨⟨ys, h1⟩, h2⟩ := a.pin j b hb
    have ne : j ≠ i := fun z => by
      subst z
      rw [h1] at hi
      cases hi
      cases hnp
    exact ⟨⟨ys, by rw [List.getElem?_set_ne (Ne.symm ne)]; exact h1⟩, h2⟩
  · by_cases c : b = p
    · subst c
      exact absurd ⟨i, _, xs, hi, ho, g1⟩ hn
    · rw [upd_ne c]
      exact hb
  · obtain ⟨j, s, ys, h1, h2, h3⟩ := hb
    exact ⟨j, s, ys, (oth j s ys h1 h2).2, h2, h3⟩
theorem At.fzAt {W : Wo} {σ : L2.St} {e : En} {B H : Hp} {i : Nat} {xs : List PyData} (a : At W σ e B H) (hi : e[i]? = some (.o xs)) : ∃ p vs, σ[i]? = some (some (.ref p)) ∧ H p = some (.lst vs) ∧ B p = none ∧ DqAll W.K B vs xs ∧
    At W σ (e.set i (.d (.list xs))) (upd B p (.lst vs)) H ∧ Gx σ e B H (e.set i (.d (.list xs))) (upd B p (.lst vs)) H := by
  obtain ⟨p, o, h1, h2, h3, ⟨vs, rfl, h4⟩, h5, h6⟩ := a.fzAtC hi (xs := .l xs) rfl rfl rfl
  exact ⟨p, vs, h1, h2, h3, h4, h5, h6⟩
theorem se_var {i : Nat} : SE K (tVar i) (dVar i) := fun W hW σ e B H a d e' h Q q => by
  unfold dVar at h
  split at h
  · rename_i x hx
    cases h
    obtain ⟨v, h1, h2⟩ := a.dat i _ hx
    rw [hW] at h2
    exact ⟨v, h1, q v B H a (.refl _ _ _ _) h2⟩
  · rename_i xs hx
    cases h
    obtain ⟨p, vs, h1, h2, h3, h4, h5, h6⟩ := a.fzAt hx
    rw [hW] at h4
    exact ⟨_, h1, q _ _ H h5 h6 (.lst (sq_of upd_same) (dpa_mono (Ex.new h3) h4))⟩
  · rename_i xs hx
    cases h
    obtain ⟨p, vs, h1, h2, h3, h4, h5, h6⟩ := a.fzAtC hx (xs := .q xs) rfl rfl rfl
    rw [hW] at h4
    exact ⟨_, h1, q _ _ H h5 h6 ((cn_mono (Ex.new h3) h4).dq rfl upd_same)⟩
  · cases h
theorem se_if (hc : ST K t c) (ha : SE K ta f) (hb : SE K tb g) : SE K (tIf t ta tb) (dIf c f g) := fun W hW σ e B H a d e' h Q q => by
  obtain ⟨b, e1, h1, h⟩ := dBind_some h
  refine hc W hW σ e B H a b e1 h1 _ fun B1 H1 a1 g1 => ?_
  by_cases z : b = true
  · rw [if_pos z] at h ⊢
    exact ha W hW σ e1 B1 H1 a1 d e' h Q fun v B2 H2 a2 g2 => q v B2 H2 a2 (g1.trans g2)
  · rw [if_neg z] at h ⊢
    exact hb W hW σ e1 B1 H1 a1 d e' h Q fun v B2 H2 a2 g2 => q v B2 H2 a2 (g1.trans g2)
theorem se_and (ha : SE K ta f) (hb : SE K tb g) : SE K (tAndV ta tb) (dAnd f g) := fun W hW σ e B H a d e' h Q q => by
  obtain ⟨x, e1, h1, h⟩ := dBind_some h
  refine ha W hW σ e B H a x e1 h1 _ fun v1 B1 H1 a1 g1 d1 => ?_
  split at h
  · obtain ⟨y, e2, h2, h⟩ := dBind_some h
    split at h
    · obtain ⟨rfl, rfl⟩ := dK_some h
      exact ⟨true, d1.bl_of, hb W hW σ e1 B1 H1 a1 _ e' h2 Q fun v B2 H2 a2 g2 => q v B2 H2 a2 (g1.trans g2)⟩
    · cases h
  · obtain ⟨rfl, rfl⟩ := dK_some h
    exact ⟨false, d1.bl_of, q _ B1 H1 a1 g1 (.bl false)⟩
  · cases h
theorem se_or (ha : SE K ta f) (hb : SE K tb g) : SE K (tOrV ta tb) (dOr f g) := fun W hW σ e B H a d e' h Q q => by
  obtain ⟨x, e1, h1, h⟩ := dBind_some h
  refine ha W hW σ e B H a x e1 h1 _ fun v1 B1 H1 a1 g1 d1 => ?_
  split at h
  · obtain ⟨y, e2, h2, h⟩ := dBind_some h
    split at h
    · obtain ⟨rfl, rfl⟩ := dK_some h
      exact ⟨false, d1.bl_of, hb W hW σ e1 B1 H1 a1 _ e' h2 Q fun v B2 H2 a2 g2 => q v B2 H2 a2 (g1.trans g2)⟩
    · cases h
  · obtain ⟨rfl, rfl⟩ := dK_some h
    exact ⟨true, d1.bl_of, q _ B1 H1 a1 g1 (.bl true)⟩
  · cases h
theorem se_not (ha : SE K ta f) : SE K (tNotV ta) (dNot f) := fun W hW σ e B H a d e' h Q q => by
  obtain ⟨x, e1, h1, h⟩ := dBind_some h
  refine ha W hW σ e B H a x e1 h1 _ fun v1 B1 H1 a1 g1 d1 => ?_
  split at h
  · rename_i b
    obtain ⟨rfl, rfl⟩ := dK_some h
    exact ⟨b, d1.bl_of, q _ B1 H1 a1 g1 (.bl _)⟩
  · cases h
theorem st_test (ha : SE K ta f) : ST K (tTest ta) (dTest f) := fun W hW σ e B H a d e' h Q q => by
  obtain ⟨x, e1, h1, h⟩ := dBind_some h
  refine ha W hW σ e B H a x e1 h1 _ fun v1 B1 H1 a1 g1 d1 => ?_
  split at h
  · rename_i b
    obtain ⟨rfl, rfl⟩ := dK_some h
    exact ⟨b, d1.bl_of, q B1 H1 a1 g1⟩
  · cases h
theorem st_val (ha : SE K ta f) : ST K (tB ta) (dTest f) := st_test ha
theorem st_and (ha : ST K t c) (hb : ST K u c2) : ST K (tAnd t u) (dAndT c c2) := fun W hW σ e B H a d e' h Q q => by
  obtain ⟨b, e1, h1, h⟩ := dBind_some h
  refine ha W hW σ e B H a b e1 h1 _ fun B1 H1 a1 g1 => ?_
  cases b with
  | true => exact hb W hW σ e1 B1 H1 a1 d e' h Q fun B2 H2 a2 g2 => q B2 H2 a2 (g1.trans g2)
  | false =>
    obtain ⟨rfl, rfl⟩ := dK_some h
    exact q B1 H1 a1 g1
theorem st_or (ha : ST K t c) (hb : ST K u c2) : ST K (tOr t u) (dOrT c c2) := fun W hW σ e B H a d e' h Q q => by
  obtain ⟨b, e1, h1, h⟩ := dBind_some h
  refine ha W hW σ e B H a b e1 h1 _ fun B1 H1 a1 g1 => ?_
  cases b with
  | false => exact hb W hW σ e1 B1 H1 a1 d e' h Q fun B2 H2 a2 g2 => q B2 H2 a2 (g1.trans g2)
  | true =>
    obtain ⟨rfl, rfl⟩ := dK_some h
    exact q B1 H1 a1 g1
theorem st_not (ha : ST K t c) : ST K (tNot t) (dNotT c) := fun W hW σ e B H a d e' h Q q => by
  obtain ⟨b, e1, h1, h⟩ := dBind_some h
  obtain ⟨rfl, rfl⟩ := dK_some h
  exact ha W hW σ e B H a b e' h1 _ fun B1 H1 a1 g1 => q B1 H1 a1 g1
theorem st_yes : ST K tYes (dK true) := fun W hW σ e B H a d e' h Q q => by
  obtain ⟨rfl, rfl⟩ := dK_some h
  exact q B H a (.refl _ _ _ _)
theorem se_tup {tr : TA} {k : Dn (List PyData)} (h : SA K tr k) : SE K (tTupZ tr) (dTup k) := fun W hW σ e B H a d e' h' Q q => by
  obtain ⟨ds, e1, h1, h2⟩ := dBind_some h'
  split at h2
  · rename_i hz
    obtain ⟨rfl, rfl⟩ := dK_some h2
    refine h W hW σ e B H a ds e' h1 _ fun vs B1 H1 a1 g1 d1 => ⟨sz_of (by rw [DqAll.length d1]; exact of_decide_eq_true hz), fun p o hp hoc hod => ?_⟩
    have g : Gr B1 H1 (upd B1 p (.frz o (.tup vs))) (upd H1 p (.frz o (.tup vs))) := Gr.new a1.ex hp
    exact q _ _ _ (a1.gr g) (g1.trans (gx_gr g)) (.tupZ hoc hod upd_same (dpa_mono g.hg d1))
  · cases h2
theorem sl_lst {tr : TA} {k : Dn (List PyData)} (h : SA K tr k) : SL K (tLst tr) (dLst k) := fun W hW σ e B H a d e' h' Q q => by
  obtain ⟨ds, e1, h1, h2⟩ := dBind_some h'
  split at h2
  · rename_i hz
    obtain ⟨rfl, rfl⟩ := dK_some h2
    refine h W hW σ e B H a ds e' h1 _ fun vs B1 H1 a1 g1 d1 => ⟨sz_of (by rw [DqAll.length d1]; exact of_decide_eq_true hz), fun p hp => ?_⟩
    have g : Gr B1 H1 B1 (upd H1 p (.lst vs)) := Gr.mut a1.ex hp
    exact q p vs _ _ (a1.gr g) (g1.trans (gx_gr g)) (g1.go.dm p hp) upd_same (fresh_back a1.ex hp) d1
  · cases h2
end
end Fd
end

section
set_option Elab.async false
set_option linter.all false
set_option maxRecDepth 100000
set_option maxHeartbeats 1000000
/-! Walks by meaning 2: statements and loops. -/
variable [Fd.Uw]
namespace Fd
open PySem PySem.Spec PyProof.Rows L2 Evl Tb

/-- how a statement ends -/
inductive Rs where
  | nx (e : En)
  | bk (e : En)
  | ct (e : En)
  | rt (d : PyData) (e : En)
  | rl (xs : List PyData) (e : En)
abbrev Ds := En → Option Rs
def Po (W : Wo) (B H : Hp) (D : Ends) : Rs → Prop
  | .nx e' => ∀ σ' B' H', At W σ' e' B' H' → Go W.M B H B' H' → D.nx σ' H'
  | .bk e' => ∀ σ' B' H', At W σ' e' B' H' → Go W.M B H B' H' → D.bk σ' H'
  | .ct e' => ∀ σ' B' H', At W σ' e' B' H' → Go W.M B H B' H' → D.ct σ' H'
  | .rt d e' => ∀ v σ' B' H', At W σ' e' B' H' → Go W.M B H B' H' → Dq W.K B' v d → D.rt v H'
  | .rl xs e' => ∀ p vs σ' B' H', At W σ' e' B' H' → Go W.M B H B' H' → W.M p → (∀ i, W.pn i ≠ some p) → H' p = some (.lst vs) → B' p = none → DqAll W.K B' vs xs → D.rt (.ref p) H'
def SS (K : PySem.W.Frag) (t : TS) (f : Ds) : Prop := ∀ (W : Wo), W.K = K → ∀ (σ : L2.St) (e : En) (B H : Hp), At W σ e B H → ∀ r, f e = some r → ∀ D : Ends, Po W B H D r → t D σ H
theorem Po.mono {W : Wo} {B H B1 H1 : Hp} {D : Ends} {r : Rs} (g : Go W.M B H B1 H1) (h : Po W B H D r) : Po W B1 H1 D r := by
  cases r with
  | nx e => exact fun σ' B' H' a g' => h σ' B' H' a (g.trans g')
  | bk e => exact fun σ' B' H' a g' => h σ' B' H' a (g.trans g')
  | ct e => exact fun σ' B' H' a g' => h σ' B' H' a (g.trans g')
  | rt d e => exact fun v σ' B' H' a g' => h v σ' B' H' a (g.trans g')
  | rl xs e => exact fun p vs σ' B' H' a g' => h p vs σ' B' H' a (g.trans g')

/-! ### slots that are set -/
section
variable {W : Wo} {σ : L2.St} {e : En} {B H : Hp}
theorem set_cases {e : En} {i j : Nat} {s u : Sl} (h : (e.set i u)[j]? = some s) : (j = i ∧ s = u ∧ i < e.length) ∨ (j ≠ i ∧ e[j]? = some s) := by
  by_cases c : j = i
  · subst c
    have hl : j < e.length := by
      have := (List.getElem?_eq_some_iff.mp h).1
      rw [List.length_set] at this
      exact this
    rw [List.getElem?_set_self hl] at h
    cases h
    exact .inl ⟨rfl, rfl, hl⟩
  · rw [List.getElem?_set_ne (Ne.symm c)] at h
    exact .inr ⟨c, h⟩
theorem At.lt (a : At W σ e B H) {i : Nat} (h : i < e.length) : i < σ.length := by rw [a.len]; exact h
theorem At.setD (a : At W σ e B H) {i : Nat} {v : V} {x : PyData} (hp : W.pn i = none) (hv : Dq W.K B v x) : At W (σ.set i (some v)) (e.set i (.d x)) B H where
  ex := a.ex
  nm := a.nm
  len := by rw [List.length_set, List.length_set]; exact a.len
  dat := fun j y h => by
    rcases set_cases h with ⟨rfl, e1, hl⟩ | ⟨c, h⟩
    · cases e1
      exact ⟨v, List.getElem?_set_self (a.lt hl), hv⟩
    · rw [List.getElem?_set_ne (Ne.symm c)]
      exact a.dat j y h
  own := fun j s xs h1 h2 => by
    rcases set_cases h1 with ⟨rfl, rfl, hl⟩ | ⟨c, h⟩
    · cases h2
    · rw [List.getElem?_set_ne (Ne.symm c)]
      exact a.own j s xs h h2
  sep := fun j k s t p xs ys h1 h2 h3 h4 h5 h6 => by
    rcases set_cases h1 with ⟨rfl, rfl, hl⟩ | ⟨c, h1⟩
    · cases h2
    · rcases set_cases h3 with ⟨rfl, rfl, hl⟩ | ⟨c2, h3⟩
      · cases h4
      · rw [List.getElem?_set_ne (Ne.symm c)] at h5
        rw [List.getElem?_set_ne (Ne.symm c2)] at h6
        exact a.sep j k s t p xs ys h1 h2 h3 h4 h5 h6
  pin := fun j b hb => by
    have ne : i ≠ j := fun z => by
      subst z
      rw [hp] at hb
      cases hb
    rw [List.getElem?_set_ne ne, List.getElem?_set_ne ne]
    exact a.pin j b hb
theorem ow_setD {i : Nat} {v : V} {x : PyData} {b : Addr} (h : Ow (σ.set i (some v)) (e.set i (.d x)) b) : Ow σ e b := by
  obtain ⟨j, s, xs, h1, h2, h3⟩ := h
  rcases set_cases h1 with ⟨rfl, rfl, hl⟩ | ⟨c, h⟩
  · cases h2
  · rw [List.getElem?_set_ne (Ne.symm c)] at h3
    exact ⟨j, s, xs, h, h2, h3⟩
theorem At.setC (a : At W σ e B H) {i : Nat} {p : Addr} {vs : HO} {so : Sl} {xs : Cn} (hso : so.own = some xs) (hnp : so.isP = false) (hp : W.pn i = none) (no : ¬ Ow σ e p) (hM : W.M p) (h0 : B p = none) (hl : H p = some vs) (hv : CnO W.K B p vs xs) : At W (σ.set i (some (.ref p))) (e.set i so) B H where
  ex := a.ex
  nm := a.nm
  len := by rw [List.length_set, List.length_set]; exact a.len
  dat := fun j y h => by
    rcases set_cases h with ⟨rfl, e1, hl⟩ | ⟨c, h⟩
    · subst e1
      cases hso
    · rw [List.getElem?_set_ne (Ne.symm c)]
      exact a.dat j y h
  own := fun j s ys h1 h2 => by
    rcases set_cases h1 with ⟨rfl, e1, hlt⟩ | ⟨c, h⟩
    · subst e1
      rw [hso] at h2
      cases h2
      exact ⟨p, vs, List.getElem?_set_self (a.lt hlt), hM, h0, hl, hv⟩
    · rw [List.getElem?_set_ne (Ne.symm c)]
      exact a.own j s ys h h2
  sep := fun j k s t q xs ys h1 h2 h3 h4 h5 h6 => by
    rcases set_cases h1 with ⟨e1, e2, hl⟩ | ⟨c, h1'⟩
    · rcases set_cases h3 with ⟨e3, e4, hl2⟩ | ⟨c2, h3'⟩
      · rw [e1, e3]
      · subst e1
        rw [List.getElem?_set_self (a.lt hl)] at h5
        rw [List.getElem?_set_ne (Ne.symm c2)] at h6
        cases h5
        exact absurd ⟨k, t, ys, h3', h4, h6⟩ no
    · rcases set_cases h3 with ⟨e3, e4, hl2⟩ | ⟨c2, h3'⟩
      · rw [e3, List.getElem?_set_self (a.lt hl2)] at h6
        rw [List.getElem?_set_ne (Ne.symm c)] at h5
        cases h6
        exact absurd ⟨j, s, xs, h1', h2, h5⟩ no
      · rw [List.getElem?_set_ne (Ne.symm c)] at h5
        rw [List.getElem?_set_ne (Ne.symm c2)] at h6
        exact a.sep j k s t q xs ys h1' h2 h3' h4 h5 h6
  pin := fun j b hb => by
    have ne : i ≠ j := fun z => by
      subst z
      rw [hp] at hb
      cases hb
    rw [List.getElem?_set_ne ne, List.getElem?_set_ne ne]
    exact a.pin j b hb
theorem At.setO (a : At W σ e B H) {i : Nat} {p : Addr} {vs : List V} {xs : List PyData} (hp : W.pn i = none) (no : ¬ Ow σ e p) (hM : W.M p) (h0 : B p = none) (hl : H p = some (.lst vs)) (hv : DqAll W.K B vs xs) : At W (σ.set i (some (.ref p))) (e.set i (.o xs)) B H :=
  a.setC (xs := .l xs) rfl rfl hp no hM h0 hl ⟨vs, rfl, hv⟩
/-- the list at a slot gets other content -/
theorem At.putC (a : At W σ e B H) {i : Nat} {s s' : Sl} {xs ys : Cn} {p : Addr} {vs : HO} (hi : e[i]? = some s) (hs : s.own = some xs) (hs' : s'.own = some ys) (hP : s.isP = s'.isP) (hp : σ[i]? = some (some (.ref p))) (hv : CnO W.K B p vs ys) :
    At W σ (e.set i s') B (upd H p vs) ∧ Go W.M B H B (upd H p vs) := by
  obtain ⟨q, us, g1, g2, g3, g4, g5⟩ := a.own i s xs hi hs
  rw [hp] at g1
  cases g1
  refine ⟨⟨Ex.mut a.ex g3, fun b hb => ?_, by rw [List.length_set]; exact a.len, fun j y h => ?_, fun j t zs h1 h2 => ?_, fun j k t u q zs ws h1 h2 h3 h4 h5 h6 => ?_, fun j b hb => ?_⟩, ⟨Ex.refl B, fun b o hM h => ?_, fun b h => ?_, fun b _ h _ => h⟩⟩
  · by_cases c : b = p
    · subst c
      rw [upd_same] at hb
      cases hb
    · rw [upd_ne c] at hb
      exact a.nm b hb
  · rcases set_cases h with ⟨rfl, e1, hl⟩ | ⟨c, h⟩
    · subst e1
      cases hs'
    · exact a.dat j y h
  · rcases set_cases h1 with ⟨rfl, rfl, hlt⟩ | ⟨c, h⟩
    · rw [hs'] at h2
      cases h2
      exact ⟨p, vs, hp, g2, g3, upd_same, hv⟩
    · obtain ⟨q, us', k1, k2, k3, k4, k5⟩ := a.own j t zs h h2
      have qp : q ≠ p := fun z => by
        subst z
        exact c (a.sep j i t s q zs xs h h2 hi hs k1 hp)
      exact ⟨q, us', k1, k2, k3, by rw [upd_ne qp]; exact k4, k5⟩
  · have old : ∀ (j : Nat) (t : Sl) zs, (e.set i s')[j]? = some t → t.own = some zs → ∃ t' zs', e[j]? = some t' ∧ t'.own = some zs' := fun j t zs h1 h2 => by
      rcases set_cases h1 with ⟨rfl, rfl, hlt⟩ | ⟨c, h⟩
      · exact ⟨s, xs, hi, hs⟩
      · exact ⟨t, zs, h, h2⟩
    obtain ⟨t1, z1, m1, m2⟩ := old j t zs h1 h2
    obtain ⟨t2, z2, m3, m4⟩ := old k u ws h3 h4
    exact a.sep j k t1 t2 q z1 z2 m1 m2 m3 m4 h5 h6
  · obtain ⟨⟨zs, k1⟩, k2⟩ := a.pin j b hb
    refine ⟨?_, k2⟩
    by_cases c : j = i
    · subst c
      rw [k1] at hi
      cases hi
      cases s' with
      | p ws => exact ⟨ws, getElem?_set_eq k1⟩
      | no => cases hP
      | d x => cases hP
      | o x => cases hP
      | q x => cases hP
      | u x => cases hP
    · exact ⟨zs, by rw [List.getElem?_set_ne (Ne.symm c)]; exact k1⟩
  · have c : b ≠ p := fun z => hM (z ▸ g2)
    rw [upd_ne c]
    exact h
  · by_cases c : b = p
    · subst c
      rw [upd_same] at h
      cases h
    · rw [upd_ne c] at h
      exact h
theorem At.put (a : At W σ e B H) {i : Nat} {s s' : Sl} {xs ys : List PyData} {p : Addr} {vs : List V} (hi : e[i]? = some s) (hs : s.own = some (.l xs)) (hs' : s'.own = some (.l ys)) (hP : s.isP = s'.isP) (hp : σ[i]? = some (some (.ref p))) (hv : DqAll W.K B vs ys) :
    At W σ (e.set i s') B (upd H p (.lst vs)) ∧ Go W.M B H B (upd H p (.lst vs)) := a.putC hi hs hs' hP hp ⟨vs, rfl, hv⟩
end

/-! ### targets -/
def SG (K : PySem.W.Frag) (g : TG) (sl : List Nat) (f : PyData → En → Option En) : Prop := ∀ (W : Wo), W.K = K → ∀ (σ : L2.St) (e : En) (B H : Hp) (v : V) (d : PyData), At W σ e B H → Dq K B v d → ∀ e', f d e = some e' →
  ∀ Q : L2.St → Hp → Prop, (∀ σ', At W σ' e' B H → (∀ b, Ow σ' e' b → Ow σ e b) → (∀ i, i ∉ sl → σ'[i]? = σ[i]?) → σ'.length = σ.length → Q σ' H) → g v σ H Q
def SGs (K : PySem.W.Frag) (g : TGs) (sl : List Nat) (f : List PyData → En → Option En) : Prop := ∀ (W : Wo), W.K = K → ∀ (σ : L2.St) (e : En) (B H : Hp) (vs : List V) (ds : List PyData), At W σ e B H → DqAll K B vs ds → ∀ e', f ds e = some e' →
  ∀ Q : L2.St → Hp → Prop, (∀ σ', At W σ' e' B H → (∀ b, Ow σ' e' b → Ow σ e b) → (∀ i, i ∉ sl → σ'[i]? = σ[i]?) → σ'.length = σ.length → Q σ' H) → g vs σ H Q
def canSet (e : En) (i : Nat) : Bool := match e[i]? with
  | some (.p _) => false
  | none => false
  | _ => true
def setD (i : Nat) (d : PyData) (e : En) : Option En := if canSet e i = true then some (e.set i (.d d)) else none
def setO (i : Nat) (xs : List PyData) (e : En) : Option En := if canSet e i = true then some (e.set i (.o xs)) else none
theorem can_pn {W : Wo} {σ : L2.St} {e : En} {B H : Hp} {i : Nat} (a : At W σ e B H) (h : canSet e i = true) : W.pn i = none := by
  cases hp : W.pn i with
  | none => rfl
  | some b =>
    obtain ⟨⟨xs, k⟩, _⟩ := a.pin i b hp
    unfold canSet at h
    rw [k] at h
    cases h
def dName (i : Nat) : PyData → En → Option En := setD i
def dNil : List PyData → En → Option En := fun ds e => match ds with
  | [] => some e
  | _ => none
def dGs (f : PyData → En → Option En) (g : List PyData → En → Option En) : List PyData → En → Option En := fun ds e => match ds with
  | d :: ds => match f d e with
    | some e1 => g ds e1
    | none => none
  | [] => none
def itemsOf : PyData → Option (List PyData)
  | .list xs => some xs
  | .tuple xs => some xs
  | _ => none
def dRow (n : Nat) (g : List PyData → En → Option En) : PyData → En → Option En := fun d e => match itemsOf d with
  | some xs => if xs.length = n then g xs e else none
  | none => none
theorem items_rows {d : PyData} {xs : List PyData} (h : itemsOf d = some xs) : ∃ b, d = rows b xs := by
  cases d with
  | list ys =>
    cases h
    exact ⟨true, rfl⟩
  | tuple ys =>
    cases h
    exact ⟨false, rfl⟩
  | none => cases h
  | bool b => cases h
  | int i => cases h
  | str x => cases h
  | dict x => cases h
section
variable {K : PySem.W.Frag}
theorem sg_name {i : Nat} : SG K (gName i) [i] (dName i) := fun W hW σ e B H v d a hd e' h Q q => by
  unfold dName setD at h
  split at h
  · rename_i c
    cases h
    refine q _ (a.setD (can_pn a c) (hW ▸ hd)) (fun b => ow_setD) (fun j hj => ?_) (List.length_set ..)
    have ne : i ≠ j := fun z => hj (by rw [z]; exact List.mem_singleton.mpr rfl)
    rw [List.getElem?_set_ne ne]
  · cases h
theorem sgs_nil : SGs K gNil [] dNil := fun W hW σ e B H vs ds a hd e' h Q q => by
  cases hd with
  | nil =>
    cases h
    exact ⟨rfl, q σ a (fun _ h => h) (fun _ _ => rfl) rfl⟩
  | cons => cases h
theorem sgs_cons {g : TG} {gs : TGs} {sl sls : List Nat} {f : PyData → En → Option En} {fs : List PyData → En → Option En} (h1 : SG K g sl f) (h2 : SGs K gs sls fs) : SGs K (gCons g gs) (sl ++ sls) (dGs f fs) := fun W hW σ e B H vs ds a hd e' h Q q => by
  cases hd with
  | nil => cases h
  | cons hv ha =>
    unfold dGs at h
    simp only at h
    split at h
    · rename_i e1 he1
      refine ⟨_, _, rfl, h1 W hW σ e B H _ _ a hv e1 he1 _ fun σ1 a1 o1 w1 l1 => h2 W hW σ1 e1 B H _ _ a1 ha e' h _ fun σ2 a2 o2 w2 l2 => q σ2 a2 (fun b hb => o1 b (o2 b hb)) (fun i hi => ?_) (l2.trans l1)⟩
      rw [w2 i fun z => hi (List.mem_append_right _ z), w1 i fun z => hi (List.mem_append_left _ z)]
    · cases h
theorem sg_row {n : Nat} {gs : TGs} {sl : List Nat} {fs : List PyData → En → Option En} (h1 : SGs K gs sl fs) : SG K (gRow K n gs) sl (dRow n fs) := fun W hW σ e B H v d a hd e' h Q q => by
  unfold dRow at h
  split at h
  · rename_i xs hx
    split at h
    · rename_i hn
      obtain ⟨b, rfl⟩ := items_rows hx
      obtain ⟨p, us, rfl, hr, ha⟩ := row_of hd
      exact ⟨p, us, rfl, row_mono a.ex hr, by rw [DqAll.length ha]; exact hn, h1 W hW σ e B H _ _ a ha e' h Q q⟩
    · cases h
  · cases h

/-! ### statements -/
def sAsg (f : Dn PyData) (g : PyData → En → Option En) : Ds := fun e => match f e with
  | some (d, e1) => (g d e1).map .nx
  | none => none
def sAsgO (f : Dn (List PyData)) (i : Nat) : Ds := fun e => match f e with
  | some (xs, e1) => (setO i xs e1).map .nx
  | none => none
def sDrop (f : Dn PyData) : Ds := fun e => (f e).map fun r => .nx r.2
def sSeq (f g : Ds) : Ds := fun e => match f e with
  | some (.nx e1) => g e1
  | r => r
def sIf (c : Dn Bool) (f g : Ds) : Ds := fun e => match c e with
  | some (b, e1) => if b = true then f e1 else g e1
  | none => none
def sRet (f : Dn PyData) : Ds := fun e => (f e).map fun r => .rt r.1 r.2
def sRetL (f : Dn (List PyData)) : Ds := fun e => (f e).map fun r => .rl r.1 r.2
def sNever : Ds := fun _ => none
def sSets : List Nat → List PyData → En → Option En
  | [], [], e => some e
  | i :: is, d :: ds, e => match setD i d e with
    | some e1 => sSets is ds e1
    | none => none
  | _, _, _ => none
def sPar (f : Dn (List PyData)) (is : List Nat) : Ds := fun e => match f e with
  | some (ds, e1) => (sSets is ds e1).map .nx
  | none => none
variable {te : TE} {ta : TA} {t u : TS} {tc : TT} {f : Dn PyData} {c : Dn Bool} {F G : Ds}
theorem ss_asg {g : TG} {sl : List Nat} {gd : PyData → En → Option En} (h : SE K te f) (hg : SG K g sl gd) : SS K (tAsg te g) (sAsg f gd) := fun W hW σ e B H a r hr D q => by
  unfold sAsg at hr
  split at hr
  · rename_i d e1 h1
    obtain ⟨e2, h2, rfl⟩ := Option.map_eq_some_iff.mp hr
    refine h W hW σ e B H a d e1 h1 _ fun v B1 H1 a1 g1 d1 => hg W hW σ e1 B1 H1 v d a1 d1 e2 h2 _ fun σ2 a2 o2 _ _ => q σ2 B1 H1 a2 (a.goM g1)
  · cases hr
theorem ss_asgO {i : Nat} {fl : Dn (List PyData)} (h : SL K te fl) : SS K (tAsg te (gName i)) (sAsgO fl i) := fun W hW σ e B H a r hr D q => by
  unfold sAsgO at hr
  split at hr
  · rename_i xs e1 h1
    obtain ⟨e2, h2, rfl⟩ := Option.map_eq_some_iff.mp hr
    unfold setO at h2
    split at h2
    · rename_i hc
      cases h2
      refine h W hW σ e B H a xs e1 h1 _ fun p vs B1 H1 a1 g1 p0 hp pB hd => q _ B1 H1 (a1.setO (can_pn a1 hc) (fun z => (a.ow (g1.ow p z)).2.1 p0) (a.nm p p0) pB hp (hW ▸ hd)) (a.goM g1)
    · cases h2
  · cases hr
theorem ss_drop (h : SE K te f) : SS K (tDrop te) (sDrop f) := fun W hW σ e B H a r hr D q => by
  obtain ⟨⟨d, e1⟩, h1, rfl⟩ := Option.map_eq_some_iff.mp hr
  exact h W hW σ e B H a d e1 h1 _ fun v B1 H1 a1 g1 d1 => q σ B1 H1 a1 (a.goM g1)
theorem ss_seq (h1 : SS K t F) (h2 : SS K u G) : SS K (tSeq t u) (sSeq F G) := fun W hW σ e B H a r hr D q => by
  unfold sSeq at hr
  split at hr
  · rename_i e1 he
    refine h1 W hW σ e B H a _ he _ fun σ' B' H' a' g' => h2 W hW σ' e1 B' H' a' r hr D (q.mono g')
  · rename_i r' hne
    refine h1 W hW σ e B H a r hr _ ?_
    cases r with
    | nx e1 => exact absurd hr (hne e1)
    | bk e1 => exact q
    | ct e1 => exact q
    | rt d e1 => exact q
    | rl xs e1 => exact q
theorem ss_if (hc : ST K tc c) (h1 : SS K t F) (h2 : SS K u G) : SS K (tIfS tc t u) (sIf c F G) := fun W hW σ e B H a r hr D q => by
  unfold sIf at hr
  split at hr
  · rename_i b e1 he
    refine hc W hW σ e B H a b e1 he _ fun B1 H1 a1 g1 => ?_
    have q1 := q.mono (a.goM g1)
    by_cases z : b = true
    · rw [if_pos z] at hr ⊢
      exact h1 W hW σ e1 B1 H1 a1 r hr D q1
    · rw [if_neg z] at hr ⊢
      exact h2 W hW σ e1 B1 H1 a1 r hr D q1
  · cases hr
theorem ss_ret (h : SE K te f) : SS K (tRet te) (sRet f) := fun W hW σ e B H a r hr D q => by
  obtain ⟨⟨d, e1⟩, h1, rfl⟩ := Option.map_eq_some_iff.mp hr
  exact h W hW σ e B H a d e1 h1 _ fun v B1 H1 a1 g1 d1 => q v σ B1 H1 a1 (a.goM g1) (hW ▸ d1)
theorem ss_retN : SS K tRetN (fun e => some (.rt .none e)) := fun W hW σ e B H a r hr D q => by
  cases hr
  exact q .non σ B H a (.refl _ _ _) .non
theorem ss_retL {fl : Dn (List PyData)} (h : SL K te fl) : SS K (tRet te) (sRetL fl) := fun W hW σ e B H a r hr D q => by
  obtain ⟨⟨xs, e1⟩, h1, rfl⟩ := Option.map_eq_some_iff.mp hr
  refine h W hW σ e B H a xs e1 h1 _ fun p vs B1 H1 a1 g1 p0 hp pB hd => q p vs σ B1 H1 a1 (a.goM g1) (a.nm p p0) (fun i z => ?_) hp pB (hW ▸ hd)
  obtain ⟨⟨ys, k1⟩, k2⟩ := a.pin i p z
  obtain ⟨p', us, g1', _, _, g4, _⟩ := a.ownl k1 rfl
  rw [k2] at g1'
  cases g1'
  rw [p0] at g4
  cases g4
theorem ss_next : SS K tNext (fun e => some (.nx e)) := fun W hW σ e B H a r hr D q => by
  cases hr
  exact q σ B H a (.refl _ _ _)
theorem ss_break : SS K tBreak (fun e => some (.bk e)) := fun W hW σ e B H a r hr D q => by
  cases hr
  exact q σ B H a (.refl _ _ _)
theorem ss_cont : SS K tCont (fun e => some (.ct e)) := fun W hW σ e B H a r hr D q => by
  cases hr
  exact q σ B H a (.refl _ _ _)
theorem ss_never : SS K tNever sNever := fun W hW σ e B H a r hr D q => by cases hr
/-- own name returned -/
def sRetO (i : Nat) : Ds := fun e => match e[i]? with
  | some (.o xs) => some (.rl xs e)
  | _ => none
theorem ss_retO {i : Nat} : SS K (tRet (tVar i)) (sRetO i) := fun W hW σ e B H a r hr D q => by
  unfold sRetO at hr
  split at hr
  · rename_i xs hx
    cases hr
    obtain ⟨p, vs, g1, g2, g3, g4, g5⟩ := a.ownl hx rfl
    refine ⟨_, g1, q p vs σ B H a (.refl _ _ _) g2 (fun j z => ?_) g4 g3 g5⟩
    obtain ⟨⟨ys, k1⟩, k2⟩ := a.pin j p z
    have ji := a.sep j i _ _ p (.l ys) (.l xs) k1 rfl hx rfl k2 g1
    subst ji
    rw [k1] at hx
    cases hx
  · cases hr
theorem sets_ok {W : Wo} : ∀ (is : List Nat) (vs : List V) (ds : List PyData) (σ : L2.St) (e e' : En) (B H : Hp), At W σ e B H → DqAll W.K B vs ds → sSets is ds e = some e' → ∃ σ', σ' = (is.zip vs).foldl (fun s p => s.set p.1 (some p.2)) σ ∧ At W σ' e' B H
  | [], [], [], σ, e, e', B, H, a, _, h => by
    cases h
    exact ⟨σ, rfl, a⟩
  | i :: is, v :: vs, d :: ds, σ, e, e', B, H, a, hd, h => by
    unfold sSets at h
    split at h
    · rename_i e1 h1
      unfold setD at h1
      split at h1
      · rename_i c
        cases h1
        cases hd with
        | cons hv ha =>
          obtain ⟨σ', h2, h3⟩ := sets_ok is vs ds _ _ e' B H (a.setD (can_pn a c) hv) ha h
          exact ⟨σ', h2, h3⟩
      · cases h1
    · cases h
  | [], _, _ :: _, σ, e, e', B, H, a, hd, h => by cases h
  | _ :: _, _, [], σ, e, e', B, H, a, hd, h => by cases h
  | [], _ :: _, [], σ, e, e', B, H, a, hd, h => by cases hd
  | _ :: _, [], _ :: _, σ, e, e', B, H, a, hd, h => by cases hd
theorem ss_par {i j : Nat} {fl : Dn (List PyData)} (h : SA K ta fl) : SS K (tPar i j ta) (sPar fl [i, j]) := fun W hW σ e B H a r hr D q => by
  unfold sPar at hr
  split at hr
  · rename_i ds e1 h1
    obtain ⟨e2, h2, rfl⟩ := Option.map_eq_some_iff.mp hr
    refine h W hW σ e B H a ds e1 h1 _ fun vs B1 H1 a1 g1 d1 => ?_
    obtain ⟨_, rfl, k2⟩ := sets_ok [i, j] vs ds σ e1 e2 B1 H1 a1 (hW ▸ d1) h2
    match vs, ds, d1, h2 with
    | [v, w], [d1', d2'], _, _ => exact ⟨v, w, rfl, q _ B1 H1 k2 (a.goM g1)⟩
    | [], [], _, h2 => cases h2
    | [v], [d], _, h2 =>
      unfold sSets at h2
      split at h2 <;> cases h2
    | _ :: _ :: _ :: _, _ :: _ :: _ :: _, _, h2 =>
      unfold sSets at h2
      split at h2
      · unfold sSets at h2
        split at h2 <;> cases h2
      · cases h2
  · cases hr
theorem ss_par3 {i j l : Nat} {fl : Dn (List PyData)} (h : SA K ta fl) : SS K (tPar3 i j l ta) (sPar fl [i, j, l]) := fun W hW σ e B H a r hr D q => by
  unfold sPar at hr
  split at hr
  · rename_i ds e1 h1
    obtain ⟨e2, h2, rfl⟩ := Option.map_eq_some_iff.mp hr
    refine h W hW σ e B H a ds e1 h1 _ fun vs B1 H1 a1 g1 d1 => ?_
    obtain ⟨_, rfl, k2⟩ := sets_ok [i, j, l] vs ds σ e1 e2 B1 H1 a1 (hW ▸ d1) h2
    have hl : vs.length = 3 := by
      rw [DqAll.length d1]
      clear k2 d1 h1
      match ds, h2 with
      | [_, _, _], _ => rfl
      | [], h2 => cases h2
      | [_], h2 =>
        unfold sSets at h2
        split at h2 <;> cases h2
      | [_, _], h2 =>
        unfold sSets at h2
        split at h2
        · unfold sSets at h2
          split at h2 <;> cases h2
        · cases h2
      | _ :: _ :: _ :: _ :: _, h2 =>
        unfold sSets at h2
        split at h2
        · unfold sSets at h2
          split at h2
          · unfold sSets at h2
            split at h2 <;> cases h2
          · cases h2
        · cases h2
    match vs, hl with
    | [v, w, z], _ => exact ⟨v, w, z, rfl, q _ B1 H1 k2 (a.goM g1)⟩
  · cases hr
end
end Fd
end

section
set_option Elab.async false
set_option linter.all false
set_option maxRecDepth 100000
set_option maxHeartbeats 1000000
/-! Walks by meaning 3: what is walked, loops, comprehensions, defs and calls. -/
variable [Fd.Uw]
namespace Fd
open PySem PySem.Spec PyProof.Rows L2 Evl Tb

/-! ### what is walked -/
structure Wk (K : PySem.W.Frag) (J : It) (B0 : Hp) (ds : List PyData) : Prop where
  go : ∀ (i : Nat) B1 H1, Ex B0 B1 → Ex B1 H1 → i < ds.length → J.go i H1
  st : ∀ B1 H1, Ex B0 B1 → Ex B1 H1 → J.stop ds.length H1
  yl : ∀ (i : Nat) d B1 H1 x H2, Ex B0 B1 → Ex B1 H1 → ds[i]? = some d → J.yld i H1 x H2 → ∃ B2, Gr B1 H1 B2 H2 ∧ Dq K B2 x d
def SI (K : PySem.W.Frag) (wi : TI) (f : Dn (List PyData)) : Prop := ∀ (W : Wo), W.K = K → ∀ (σ : L2.St) (e : En) (B H : Hp), At W σ e B H → ∀ ds e', f e = some (ds, e') →
  ∀ R : It → Hp → Prop, (∀ J B1 H1, At W σ e' B1 H1 → Gx σ e B H e' B1 H1 → Wk K J B1 ds → R J H1) → wi σ H R
theorem wk_of {K : PySem.W.Frag} {J : It} {n : Nat} {G : Hp → Prop} {Y : Nat → Hp → V → Hp → Prop} {B0 : Hp} {ds : List PyData} (w : Walk J n G Y) (hn : n = ds.length) (hG : ∀ H1, Ex B0 H1 → G H1)
    (hY : ∀ (i : Nat) d B1 H1 x H2, Ex B0 B1 → Ex B1 H1 → ds[i]? = some d → Y i H1 x H2 → ∃ B2, Gr B1 H1 B2 H2 ∧ Dq K B2 x d) : Wk K J B0 ds := by
  subst hn
  refine ⟨fun i B1 H1 x y hi => w.goes i H1 hi (hG H1 (x.trans y)), fun B1 H1 x y => w.stops H1 (hG H1 (x.trans y)), fun i d B1 H1 v H2 x y hd hv => hY i d B1 H1 v H2 x y hd (w.yields i H1 v H2 (List.getElem?_eq_some_iff.mp hd).1 (hG H1 (x.trans y)) hv)⟩
section
variable {K : PySem.W.Frag} {B0 : Hp} {ds : List PyData}
theorem wk_list {a : Addr} {xs : List V} (h : SqL K B0 a xs) (hd : DqAll K B0 xs ds) : Wk K (Itl K a) B0 ds := wk_of walk_list (DqAll.length hd) (fun H1 e => ex_l e h) fun i d B1 H1 x H2 e1 e2 hi y => by
  obtain ⟨rfl, hx⟩ := y
  obtain ⟨d', k1, k2⟩ := hd.get hx
  rw [hi] at k1
  cases k1
  exact ⟨B1, .refl e2, dp_mono e1 k2⟩
theorem wk_tup {a : Addr} {xs : List V} (h : SqT K B0 a xs) (hd : DqAll K B0 xs ds) : Wk K (Itt K a) B0 ds := wk_of walk_tup (DqAll.length hd) (fun H1 e => ex_t e h) fun i d B1 H1 x H2 e1 e2 hi y => by
  obtain ⟨rfl, hx⟩ := y
  obtain ⟨d', k1, k2⟩ := hd.get hx
  rw [hi] at k1
  cases k1
  exact ⟨B1, .refl e2, dp_mono e1 k2⟩
def rgD (lo : Int) (n : Nat) : List PyData := (List.range n).map fun i => .int (lo + (i : Nat))
theorem wk_range {lo : Int} {n : Nat} : Wk K (Itr lo n) B0 (rgD lo n) := wk_of walk_range (by unfold rgD; rw [List.length_map, List.length_range]) (fun _ _ => trivial) fun i d B1 H1 x H2 e1 e2 hi y => by
  obtain ⟨rfl, rfl⟩ := y
  unfold rgD at hi
  rw [List.getElem?_map] at hi
  obtain ⟨j, hj, rfl⟩ := Option.map_eq_some_iff.mp hi
  have e : j = i := by
    have := List.getElem?_eq_some_iff.mp hj
    obtain ⟨h1, h2⟩ := this
    rw [List.getElem_range] at h2
    exact h2.symm
  subst e
  exact ⟨B1, .refl e2, .int _⟩
def enD (k0 : Int) : List PyData → List PyData
  | [] => []
  | d :: ds => .tuple [.int k0, d] :: enD (k0 + 1) ds
theorem enD_length : ∀ (ds : List PyData) (k0 : Int), (enD k0 ds).length = ds.length
  | [], _ => rfl
  | _ :: ds, k0 => congrArg Nat.succ (enD_length ds (k0 + 1))
theorem enD_get : ∀ (ds : List PyData) (k0 : Int) (i : Nat), (enD k0 ds)[i]? = (ds[i]?).map fun d => .tuple [.int (k0 + (i : Nat)), d]
  | [], k0, i => by simp [enD]
  | d :: ds, k0, 0 => by
    show some (PyData.tuple [.int k0, d]) = some (.tuple [.int (k0 + ((0 : Nat) : Int)), d])
    rw [show k0 + ((0 : Nat) : Int) = k0 by omega]
  | d :: ds, k0, i + 1 => by
    show (enD (k0 + 1) ds)[i]? = (ds[i]?).map _
    rw [enD_get ds (k0 + 1) i]
    congr 1
    funext d'
    rw [show k0 + 1 + (i : Nat) = k0 + ((i + 1 : Nat) : Int) by omega]
theorem pair_new {B1 H1 H2 : Hp} {T : Addr} {i : Int} {x : V} {d : PyData} (e2 : Ex B1 H1) (hT : H1 T = none) (h : H2 = upd H1 T (.tup [.int i, x])) (hd : Dq K B1 x d) : ∃ B2, Gr B1 H1 B2 H2 ∧ Dq K B2 (.ref T) (.tuple [.int i, d]) := by
  subst h
  have g : Gr B1 H1 (upd B1 T (.tup [.int i, x])) (upd H1 T (.tup [.int i, x])) := Gr.new e2 hT
  exact ⟨_, g, .tupN (st_of upd_same) (.cons (.int i) (.cons (dp_mono g.hg hd) .nil)) rfl⟩
theorem wk_enL {a : Addr} {xs : List V} {k0 : Int} (h : SqL K B0 a xs) (hd : DqAll K B0 xs ds) : Wk K (IteL K a k0) B0 (enD k0 ds) := wk_of walk_enumL (by rw [enD_length]; exact DqAll.length hd) (fun H1 e => ex_l e h) fun i d B1 H1 x H2 e1 e2 hi y => by
  obtain ⟨T, z, rfl, hT, hH, hx⟩ := y
  obtain ⟨d', k1, k2⟩ := hd.get hx
  rw [enD_get, k1] at hi
  cases hi
  exact pair_new e2 hT hH (dp_mono e1 k2)
theorem wk_enT {a : Addr} {xs : List V} {k0 : Int} (h : SqT K B0 a xs) (hd : DqAll K B0 xs ds) : Wk K (IteT K a k0) B0 (enD k0 ds) := wk_of walk_enumT (by rw [enD_length]; exact DqAll.length hd) (fun H1 e => ex_t e h) fun i d B1 H1 x H2 e1 e2 hi y => by
  obtain ⟨T, z, rfl, hT, hH, hx⟩ := y
  obtain ⟨d', k1, k2⟩ := hd.get hx
  rw [enD_get, k1] at hi
  cases hi
  exact pair_new e2 hT hH (dp_mono e1 k2)
theorem rev_get (ds : List PyData) (i : Nat) (d : PyData) (h : ds.reverse[i]? = some d) : ds[ds.length - 1 - i]? = some d := by
  have hi := (List.getElem?_eq_some_iff.mp h).1
  rw [List.length_reverse] at hi
  rw [List.getElem?_reverse hi] at h
  exact h
theorem wk_revL {a : Addr} {xs : List V} (h : SqL K B0 a xs) (hd : DqAll K B0 xs ds) : Wk K (Itv K a xs.length) B0 ds.reverse := wk_of walk_rev (by rw [List.length_reverse]; exact DqAll.length hd) (fun H1 e => ex_l e h) fun i d B1 H1 x H2 e1 e2 hi y => by
  obtain ⟨rfl, hx⟩ := y
  obtain ⟨d', k1, k2⟩ := hd.get hx
  rw [DqAll.length hd, rev_get ds i d hi] at k1
  cases k1
  exact ⟨B1, .refl e2, dp_mono e1 k2⟩
theorem wk_revT {a : Addr} {xs : List V} (h : SqT K B0 a xs) (hd : DqAll K B0 xs ds) : Wk K (RT.ItvT K a xs.length) B0 ds.reverse := wk_of walk_revT (by rw [List.length_reverse]; exact DqAll.length hd) (fun H1 e => ex_t e h) fun i d B1 H1 x H2 e1 e2 hi y => by
  obtain ⟨rfl, hx⟩ := y
  obtain ⟨d', k1, k2⟩ := hd.get hx
  rw [DqAll.length hd, rev_get ds i d hi] at k1
  cases k1
  exact ⟨B1, .refl e2, dp_mono e1 k2⟩
end
def dItems (f : Dn PyData) : Dn (List PyData) := dBind f fun d => dLift (itemsOf d)
def dRev (f : Dn PyData) : Dn (List PyData) := dBind f fun d => dLift ((itemsOf d).map List.reverse)
def dEnum (f : Dn (List PyData)) : Dn (List PyData) := dBind f fun ds => match ds with
  | [d] => dLift ((itemsOf d).map (enD 0))
  | _ => fun _ => none
def dEnumS (f g : Dn (List PyData)) : Dn (List PyData) := dBind f fun ds => dBind g fun ks => match ds, ks with
  | [d], [.int k] => if -1000000 ≤ k ∧ k ≤ 1000000 then dLift ((itemsOf d).map (enD k)) else fun _ => none
  | _, _ => fun _ => none
def big (i : Int) : Bool := decide (-1000000 ≤ i ∧ i ≤ 1000000)
def dRg1 (f : Dn (List PyData)) : Dn (List PyData) := dBind f fun ds => match ds with
  | [.int n] => if big n = true then dK (rgD 0 n.toNat) else fun _ => none
  | _ => fun _ => none
def dRg2 (f : Dn (List PyData)) : Dn (List PyData) := dBind f fun ds => match ds with
  | [.int i, .int j] => if (big i && big j) = true then dK (rgD i (j - i).toNat) else fun _ => none
  | _ => fun _ => none
section
variable {K : PySem.W.Frag} {te : TE} {ta tk : TA} {f : Dn PyData} {fl fk : Dn (List PyData)}
theorem si_row (h : SE K te f) : SI K (iRow K te) (dItems f) := fun W hW σ e B H a ds e' h' R q => by
  obtain ⟨d, e1, h1, h2⟩ := dBind_some h'
  obtain ⟨h3, rfl⟩ := dLift_some h2
  obtain ⟨b, rfl⟩ := items_rows h3
  refine h W hW σ e B H a _ e' h1 _ fun v B1 H1 a1 g1 d1 => ?_
  obtain ⟨p, xs, rfl, hr, hd⟩ := row_of d1
  refine ⟨p, rfl, ?_⟩
  rcases hr with hr | hr
  · exact .inl ⟨⟨xs, ex_l a1.ex hr⟩, q _ B1 H1 a1 g1 (wk_list hr hd)⟩
  · exact .inr ⟨⟨xs, ex_t a1.ex hr⟩, q _ B1 H1 a1 g1 (wk_tup hr hd)⟩
theorem si_rev (h : SE K te f) : SI K (RT.iRevA K te) (dRev f) := fun W hW σ e B H a ds e' h' R q => by
  obtain ⟨d, e1, h1, h2⟩ := dBind_some h'
  obtain ⟨h3, rfl⟩ := dLift_some h2
  obtain ⟨xs, hx, rfl⟩ := Option.map_eq_some_iff.mp h3
  obtain ⟨b, rfl⟩ := items_rows hx
  refine h W hW σ e B H a _ e' h1 _ fun v B1 H1 a1 g1 d1 => ?_
  obtain ⟨p, us, rfl, hr, hd⟩ := row_of d1
  refine ⟨p, us, rfl, ?_⟩
  rcases hr with hr | hr
  · exact .inl ⟨ex_l a1.ex hr, q _ B1 H1 a1 g1 (wk_revL hr hd)⟩
  · exact .inr ⟨ex_t a1.ex hr, q _ B1 H1 a1 g1 (wk_revT hr hd)⟩
theorem si_enumR (h : SA K ta fl) : SI K (iEnumR K ta) (dEnum fl) := fun W hW σ e B H a ds e' h' R q => by
  obtain ⟨d, e1, h1, h2⟩ := dBind_some h'
  split at h2
  · rename_i d1
    obtain ⟨h3, rfl⟩ := dLift_some h2
    obtain ⟨xs, hx, rfl⟩ := Option.map_eq_some_iff.mp h3
    obtain ⟨b, rfl⟩ := items_rows hx
    refine h W hW σ e B H a _ e' h1 _ fun vs B1 H1 a1 g1 d1 => ?_
    cases d1 with
    | cons dv dr =>
      cases dr
      obtain ⟨p, us, rfl, hr, hd⟩ := row_of dv
      refine ⟨_, rfl, p, rfl, ?_⟩
      rcases hr with hr | hr
      · exact .inl ⟨⟨us, ex_l a1.ex hr⟩, q _ B1 H1 a1 g1 (wk_enL hr hd)⟩
      · exact .inr ⟨⟨us, ex_t a1.ex hr⟩, q _ B1 H1 a1 g1 (wk_enT hr hd)⟩
  · cases h2
theorem si_enumS (h : SA K ta fl) (hk : SA K tk fk) : SI K (iEnumS K ta tk) (dEnumS fl fk) := fun W hW σ e B H a ds e' h' R q => by
  obtain ⟨d, e1, h1, h2⟩ := dBind_some h'
  obtain ⟨ks, e2, h1', h4⟩ := dBind_some h2
  clear h2
  split at h4
  · rename_i d1 k
    split at h4
    · rename_i hb
      obtain ⟨h3, rfl⟩ := dLift_some h4
      obtain ⟨xs, hx, rfl⟩ := Option.map_eq_some_iff.mp h3
      obtain ⟨b, rfl⟩ := items_rows hx
      refine h W hW σ e B H a _ e1 h1 _ fun vs B1 H1 a1 g1 d1 => hk W hW σ e1 B1 H1 a1 _ e' h1' _ fun ws B2 H2 a2 g2 d2 => ?_
      cases d1 with
      | cons dv dr =>
        cases dr
        have ek := DqAll.ints (ns := [k]) d2
        subst ek
        obtain ⟨p, us, rfl, hr, hd⟩ := row_of dv
        refine ⟨_, k, rfl, rfl, by omega, by omega, p, rfl, ?_⟩
        rcases hr with hr | hr
        · exact .inl ⟨⟨us, ex_l (g2.go.hg.trans a2.ex) hr⟩, q _ B2 H2 a2 (g1.trans g2) (wk_enL (ex_l g2.go.hg hr) (dpa_mono g2.go.hg hd))⟩
        · exact .inr ⟨⟨us, ex_t (g2.go.hg.trans a2.ex) hr⟩, q _ B2 H2 a2 (g1.trans g2) (wk_enT (ex_t g2.go.hg hr) (dpa_mono g2.go.hg hd))⟩
    · cases h4
  · cases h4
theorem si_rg1 (h : SA K ta fl) : SI K (iRng1 ta) (dRg1 fl) := fun W hW σ e B H a ds e' h' R q => by
  obtain ⟨d, e1, h1, h2⟩ := dBind_some h'
  split at h2
  · rename_i n
    split at h2
    · rename_i hb
      obtain ⟨rfl, rfl⟩ := dK_some h2
      have hb := of_decide_eq_true hb
      refine h W hW σ e B H a _ e' h1 _ fun vs B1 H1 a1 g1 d1 => ?_
      have ek := DqAll.ints (ns := [n]) d1
      subst ek
      have bg : (1000000 : Int) < 2 ^ 62 := by decide
      exact ⟨n, rfl, by omega, by omega, q _ B1 H1 a1 g1 wk_range⟩
    · cases h2
  · cases h2
theorem si_rg2 (h : SA K ta fl) : SI K (iRng2 ta) (dRg2 fl) := fun W hW σ e B H a ds e' h' R q => by
  obtain ⟨d, e1, h1, h2⟩ := dBind_some h'
  split at h2
  · rename_i i j
    split at h2
    · rename_i hb
      obtain ⟨rfl, rfl⟩ := dK_some h2
      rw [Bool.and_eq_true] at hb
      have hb1 := of_decide_eq_true hb.1
      have hb2 := of_decide_eq_true hb.2
      refine h W hW σ e B H a _ e' h1 _ fun vs B1 H1 a1 g1 d1 => ?_
      have ek := DqAll.ints (ns := [i, j]) d1
      subst ek
      have bg : (1000000 : Int) < 2 ^ 62 := by decide
      exact ⟨i, j, rfl, ⟨by omega, by omega, by omega, by omega⟩, q _ B1 H1 a1 g1 wk_range⟩
    · cases h2
  · cases h2
end

/-! ### for, while -/
def runFor (g : PyData → En → Option En) (b : Ds) : List PyData → Ds
  | [] => fun e => some (.nx e)
  | d :: ds => fun e => match g d e with
    | none => none
    | some e1 => match b e1 with
      | none => none
      | some (.nx e2) => runFor g b ds e2
      | some (.ct e2) => runFor g b ds e2
      | some (.bk e2) => some (.nx e2)
      | some (.rt d e2) => some (.rt d e2)
      | some (.rl xs e2) => some (.rl xs e2)
def sFor (it : Dn (List PyData)) (g : PyData → En → Option En) (b : Ds) : Ds := fun e => match it e with
  | some (ds, e1) => runFor g b ds e1
  | none => none
def whileN (c : Dn Bool) (b : Ds) : Nat → Ds
  | 0 => fun _ => none
  | n + 1 => fun e => match c e with
    | none => none
    | some (false, e1) => some (.nx e1)
    | some (true, e1) => match b e1 with
      | none => none
      | some (.nx e2) => whileN c b n e2
      | some (.ct e2) => whileN c b n e2
      | some (.bk e2) => some (.nx e2)
      | some (.rt d e2) => some (.rt d e2)
      | some (.rl xs e2) => some (.rl xs e2)
open Classical in
noncomputable def sWhile (c : Dn Bool) (b : Ds) : Ds := fun e => if h : ∃ n r, whileN c b n e = some r then some h.choose_spec.choose else none
theorem whileN_more {c : Dn Bool} {b : Ds} : ∀ {n m : Nat} {e : En} {r : Rs}, n ≤ m → whileN c b n e = some r → whileN c b m e = some r
  | 0, m, e, r, _, h => by cases h
  | n + 1, 0, e, r, hm, h => absurd hm (by omega)
  | n + 1, m + 1, e, r, hm, h => by
    have ih := fun e r => whileN_more (c := c) (b := b) (n := n) (m := m) (e := e) (r := r) (by omega)
    unfold whileN at h ⊢
    split at h <;> rename_i hc
    · cases h
    · exact h
    · split at h <;> rename_i hb
      · cases h
      · exact ih _ _ h
      · exact ih _ _ h
      · exact h
      · exact h
      · exact h
theorem sWhile_eq {c : Dn Bool} {b : Ds} {n : Nat} {e : En} {r : Rs} (h : whileN c b n e = some r) : sWhile c b e = some r := by
  have hx : ∃ n r, whileN c b n e = some r := ⟨n, r, h⟩
  unfold sWhile
  rw [dif_pos hx]
  have h2 := hx.choose_spec.choose_spec
  have e1 := whileN_more (Nat.le_max_left hx.choose n) h2
  have e2 := whileN_more (Nat.le_max_right hx.choose n) h
  rw [e1] at e2
  exact e2
theorem sWhile_some {c : Dn Bool} {b : Ds} {e : En} {r : Rs} (h : sWhile c b e = some r) : ∃ n, whileN c b n e = some r := by
  unfold sWhile at h
  split at h
  · rename_i hx
    cases h
    exact ⟨_, hx.choose_spec.choose_spec⟩
  · cases h
section
variable {K : PySem.W.Frag} {wi : TI} {g : TG} {tb : TS} {tc : TT} {sl : List Nat} {it : Dn (List PyData)} {fg : PyData → En → Option En} {fb : Ds} {c : Dn Bool}
theorem ss_for (hi : SI K wi it) (hg : SG K g sl fg) (hb : SS K tb fb) : SS K (tFor wi g tb) (sFor it fg fb) := fun W hW σ e B H a r hr D q => by
  unfold sFor at hr
  split at hr
  · rename_i ds e1 h1
    refine hi W hW σ e B H a ds e1 h1 _ fun J B1 H1 a1 g1 wk => ?_
    have gM := a.goM g1
    refine ⟨fun i m σ' H' => ∃ e' B', At W σ' e' B' H' ∧ Go W.M B H B' H' ∧ Ex B1 B' ∧ i ≤ ds.length ∧ m = ds.length - i ∧ runFor fg fb (ds.drop i) e' = some r, ⟨_, e1, B1, a1, gM, Ex.refl B1, Nat.zero_le _, rfl, hr⟩, ?_⟩
    rintro i m σ' H' ⟨e', B', a', g', x', hi', rfl, hr'⟩
    by_cases hlt : i < ds.length
    · refine .inr ⟨wk.go i B' H' x' a'.ex hlt, fun σ2 H2 => ∃ e2 B2, At W σ2 e2 B2 H2 ∧ Go W.M B H B2 H2 ∧ Ex B1 B2 ∧ runFor fg fb (ds.drop (i + 1)) e2 = some r, ?_, ?_⟩
      · rintro σ2 H2 ⟨e2, B2, a2, g2, x2, hr2⟩
        exact ⟨ds.length - (i + 1), by omega, e2, B2, a2, g2, x2, hlt, rfl, hr2⟩
      · intro x H2 hy
        obtain ⟨B2, gr, hd⟩ := wk.yl i ds[i] B' H' x H2 x' a'.ex (List.getElem?_eq_getElem hlt) hy
        rw [List.drop_eq_getElem_cons hlt] at hr'
        unfold runFor at hr'
        have a2 := a'.gr gr
        have g2 := g'.trans (.gr gr)
        split at hr'
        · cases hr'
        rename_i e3 h3
        refine hg W hW σ' e' B2 H2 x _ a2 hd e3 h3 _ fun σ3 a3 o3 _ _ => ?_
        have x3 := x'.trans gr.hg
        split at hr'
        · cases hr'
        · rename_i e4 h4
          exact hb W hW σ3 e3 B2 H2 a3 _ h4 _ fun σ5 B5 H5 a5 g5 => ⟨e4, B5, a5, g2.trans g5, x3.trans g5.hg, hr'⟩
        · rename_i e4 h4
          exact hb W hW σ3 e3 B2 H2 a3 _ h4 _ fun σ5 B5 H5 a5 g5 => ⟨e4, B5, a5, g2.trans g5, x3.trans g5.hg, hr'⟩
        · rename_i e4 h4
          cases hr'
          exact hb W hW σ3 e3 B2 H2 a3 _ h4 _ fun σ5 B5 H5 a5 g5 => q σ5 B5 H5 a5 (g2.trans g5)
        · rename_i d4 e4 h4
          cases hr'
          exact hb W hW σ3 e3 B2 H2 a3 _ h4 _ fun v σ5 B5 H5 a5 g5 => q v σ5 B5 H5 a5 (g2.trans g5)
        · rename_i d4 e4 h4
          cases hr'
          exact hb W hW σ3 e3 B2 H2 a3 _ h4 _ fun p vs σ5 B5 H5 a5 g5 => q p vs σ5 B5 H5 a5 (g2.trans g5)
    · have ei : i = ds.length := by omega
      subst ei
      rw [List.drop_length] at hr'
      cases hr'
      exact .inl ⟨wk.st B' H' x' a'.ex, q σ' B' H' a' g'⟩
  · cases hr
theorem ss_while (hc : ST K tc c) (hb : SS K tb fb) : SS K (tWhile tc tb) (sWhile c fb) := fun W hW σ e B H a r hr D q => by
  obtain ⟨n, hn⟩ := sWhile_some hr
  refine ⟨fun m σ' H' => ∃ e' B', At W σ' e' B' H' ∧ Go W.M B H B' H' ∧ whileN c fb m e' = some r, ⟨n, e, B, a, .refl _ _ _, hn⟩, ?_⟩
  rintro m σ' H' ⟨e', B', a', g', hr'⟩
  cases m with
  | zero => cases hr'
  | succ m =>
    unfold whileN at hr'
    split at hr'
    · cases hr'
    · rename_i e1 h1
      cases hr'
      refine hc W hW σ' e' B' H' a' _ e1 h1 _ fun B1 H1 a1 g1 => ?_
      rw [if_neg Bool.false_ne_true]
      exact q σ' B1 H1 a1 (g'.trans (a'.goM g1))
    · rename_i e1 h1
      refine hc W hW σ' e' B' H' a' _ e1 h1 _ fun B1 H1 a1 g1 => ?_
      rw [if_pos rfl]
      have g2 := g'.trans (a'.goM g1)
      refine ⟨fun σ2 H2 => ∃ e2 B2, At W σ2 e2 B2 H2 ∧ Go W.M B H B2 H2 ∧ whileN c fb m e2 = some r, fun σ2 H2 z => ⟨m, Nat.lt_succ_self m, z⟩, ?_⟩
      split at hr'
      · cases hr'
      · rename_i e4 h4
        exact hb W hW σ' e1 B1 H1 a1 _ h4 _ fun σ5 B5 H5 a5 g5 => ⟨e4, B5, a5, g2.trans g5, hr'⟩
      · rename_i e4 h4
        exact hb W hW σ' e1 B1 H1 a1 _ h4 _ fun σ5 B5 H5 a5 g5 => ⟨e4, B5, a5, g2.trans g5, hr'⟩
      · rename_i e4 h4
        cases hr'
        exact hb W hW σ' e1 B1 H1 a1 _ h4 _ fun σ5 B5 H5 a5 g5 => q σ5 B5 H5 a5 (g2.trans g5)
      · rename_i d4 e4 h4
        cases hr'
        exact hb W hW σ' e1 B1 H1 a1 _ h4 _ fun v σ5 B5 H5 a5 g5 => q v σ5 B5 H5 a5 (g2.trans g5)
      · rename_i d4 e4 h4
        cases hr'
        exact hb W hW σ' e1 B1 H1 a1 _ h4 _ fun p vs σ5 B5 H5 a5 g5 => q p vs σ5 B5 H5 a5 (g2.trans g5)
end
end Fd
end

section
set_option Elab.async false
set_option linter.all false
set_option maxRecDepth 100000
set_option maxHeartbeats 1000000
/-! Walks by meaning 4: comprehensions, defs and calls. -/
variable [Fd.Uw]
namespace Fd
open PySem PySem.Spec PyProof.Rows L2 Evl Tb

/-! ### comprehensions -/
def wipeE (e : En) : List Nat → En
  | [] => e
  | v :: vs => (wipeE e vs).set v .no
def restE (e1 e2 : En) : List Nat → En
  | [] => e2
  | v :: vs => (restE e1 e2 vs).set v (e1.getD v .no)
def vsFree (e : En) (vs : List Nat) : Bool := vs.all fun v => match e[v]? with
  | some .no => true
  | some (.d _) => true
  | _ => false
theorem wipe_len (σ : L2.St) : ∀ vs, (wipe σ vs).length = σ.length := wipe_length σ
theorem wipeE_len (e : En) : ∀ vs, (wipeE e vs).length = e.length
  | [] => rfl
  | v :: vs => by
    unfold wipeE
    rw [List.length_set, wipeE_len e vs]
theorem restE_len (e1 e2 : En) : ∀ vs, (restE e1 e2 vs).length = e2.length
  | [] => rfl
  | v :: vs => by
    unfold restE
    rw [List.length_set, restE_len e1 e2 vs]
theorem wipe_get (σ : L2.St) (i : Nat) : ∀ vs, (wipe σ vs)[i]? = if i ∈ vs then (if i < σ.length then some none else none) else σ[i]?
  | [] => by simp [wipe]
  | v :: vs => by
    unfold wipe
    rw [List.getElem?_set, wipe_get σ i vs, wipe_len]
    by_cases c : v = i
    · subst c
      by_cases d : v < σ.length
      · simp [d]
      · simp [d]
    · have c' : ¬ i = v := fun z => c z.symm
      simp [c, c']
theorem wipeE_get (e : En) (i : Nat) : ∀ vs, (wipeE e vs)[i]? = if i ∈ vs then (if i < e.length then some .no else none) else e[i]?
  | [] => by simp [wipeE]
  | v :: vs => by
    unfold wipeE
    rw [List.getElem?_set, wipeE_get e i vs, wipeE_len]
    by_cases c : v = i
    · subst c
      by_cases d : v < e.length
      · simp [d]
      · simp [d]
    · have c' : ¬ i = v := fun z => c z.symm
      simp [c, c']
theorem restE_get (e1 e2 : En) (i : Nat) : ∀ vs, (restE e1 e2 vs)[i]? = if i ∈ vs then (if i < e2.length then some (e1.getD i .no) else none) else e2[i]?
  | [] => by simp [restE]
  | v :: vs => by
    unfold restE
    rw [List.getElem?_set, restE_get e1 e2 i vs, restE_len]
    by_cases c : v = i
    · subst c
      by_cases d : v < e2.length
      · simp [d]
      · simp [d]
    · have c' : ¬ i = v := fun z => c z.symm
      simp [c, c']
theorem wipe_same {σ σ2 : L2.St} {vs : List Nat} (hl : σ2.length = σ.length) (h : ∀ i, i ∉ vs → σ2[i]? = σ[i]?) : wipe σ2 vs = wipe σ vs := by
  apply List.ext_getElem?
  intro i
  rw [wipe_get, wipe_get, hl]
  by_cases c : i ∈ vs
  · rw [if_pos c, if_pos c]
  · rw [if_neg c, if_neg c]
    exact h i c
theorem wipe_wipe (σ : L2.St) (vs : List Nat) : wipe (wipe σ vs) vs = wipe σ vs := wipe_same (wipe_len σ vs) fun i hi => by rw [wipe_get, if_neg hi]
section
variable {W : Wo} {σ : L2.St} {e : En} {B H : Hp} {vs : List Nat}
theorem At.wipe (a : At W σ e B H) (hp : ∀ i ∈ vs, W.pn i = none) : At W (L2.wipe σ vs) (wipeE e vs) B H where
  ex := a.ex
  nm := a.nm
  len := by rw [wipe_len, wipeE_len]; exact a.len
  dat := fun i x h => by
    rw [wipeE_get] at h
    rw [wipe_get]
    by_cases c : i ∈ vs
    · rw [if_pos c] at h
      split at h <;> cases h
    · rw [if_neg c] at h ⊢
      exact a.dat i x h
  own := fun i s xs h1 h2 => by
    rw [wipeE_get] at h1
    rw [wipe_get]
    by_cases c : i ∈ vs
    · rw [if_pos c] at h1
      split at h1
      · cases h1
        cases h2
      · cases h1
    · rw [if_neg c] at h1 ⊢
      exact a.own i s xs h1 h2
  sep := fun i j s t p xs ys h1 h2 h3 h4 h5 h6 => by
    have go : ∀ (i : Nat) s xs, (wipeE e vs)[i]? = some s → s.own = some xs → i ∉ vs ∧ e[i]? = some s := fun i s xs h1 h2 => by
      rw [wipeE_get] at h1
      by_cases c : i ∈ vs
      · rw [if_pos c] at h1
        split at h1
        · cases h1
          cases h2
        · cases h1
      · rw [if_neg c] at h1
        exact ⟨c, h1⟩
    obtain ⟨n1, k1⟩ := go i s xs h1 h2
    obtain ⟨n2, k2⟩ := go j t ys h3 h4
    rw [wipe_get, if_neg n1] at h5
    rw [wipe_get, if_neg n2] at h6
    exact a.sep i j s t p xs ys k1 h2 k2 h4 h5 h6
  pin := fun i b hb => by
    have c : i ∉ vs := fun z => by
      rw [hp i z] at hb
      cases hb
    rw [wipeE_get, wipe_get, if_neg c, if_neg c]
    exact a.pin i b hb
theorem ow_wipe {b : Addr} (h : Ow (L2.wipe σ vs) (wipeE e vs) b) : Ow σ e b := by
  obtain ⟨i, s, xs, h1, h2, h3⟩ := h
  rw [wipeE_get] at h1
  rw [wipe_get] at h3
  by_cases c : i ∈ vs
  · rw [if_pos c] at h1
    split at h1
    · cases h1
      cases h2
    · cases h1
  · rw [if_neg c] at h1 h3
    exact ⟨i, s, xs, h1, h2, h3⟩
theorem free_at {i : Nat} (h : vsFree e vs = true) (hi : i ∈ vs) : e[i]? = some .no ∨ ∃ x, e[i]? = some (.d x) := by
  have z := List.all_eq_true.mp h i hi
  split at z
  · exact .inl (by assumption)
  · exact .inr ⟨_, by assumption⟩
  · cases z
theorem free_pn (a : At W σ e B H) (h : vsFree e vs = true) : ∀ i ∈ vs, W.pn i = none := fun i hi => by
  cases hp : W.pn i with
  | none => rfl
  | some b =>
    obtain ⟨⟨xs, k⟩, _⟩ := a.pin i b hp
    rcases free_at h hi with z | ⟨x, z⟩ <;> rw [k] at z <;> cases z
theorem At.rest {e1 e2 : En} {B1 H1 B2 H2 : Hp} (a1 : At W σ e1 B1 H1) (hf : vsFree e1 vs = true) (x : Ex B1 B2) (a2 : At W (L2.wipe σ vs) e2 B2 H2) : At W σ (restE e1 e2 vs) B2 H2 := by
  have go : ∀ (i : Nat) s xs, (restE e1 e2 vs)[i]? = some s → s.own = some xs → i ∉ vs ∧ e2[i]? = some s := fun i s xs h1 h2 => by
    rw [restE_get] at h1
    by_cases c : i ∈ vs
    · rw [if_pos c] at h1
      split at h1
      · cases h1
        rw [List.getD_eq_getElem?_getD] at h2
        rcases free_at hf c with z | ⟨y, z⟩ <;> rw [z] at h2 <;> cases h2
      · cases h1
    · rw [if_neg c] at h1
      exact ⟨c, h1⟩
  have l2 := a2.len
  rw [wipe_len] at l2
  refine ⟨a2.ex, a2.nm, by rw [restE_len]; exact l2, fun i y h => ?_, fun i s xs h1 h2 => ?_, fun i j s t p xs ys h1 h2 h3 h4 h5 h6 => ?_, fun i b hb => ?_⟩
  · rw [restE_get] at h
    by_cases c : i ∈ vs
    · rw [if_pos c] at h
      split at h
      · have h' := Option.some.inj h
        rw [List.getD_eq_getElem?_getD] at h'
        rcases free_at hf c with z | ⟨y', z⟩
        · rw [z] at h'
          cases h'
        · rw [z] at h'
          cases h'
          obtain ⟨v, k1, k2⟩ := a1.dat i y z
          exact ⟨v, k1, dp_mono x k2⟩
      · cases h
    · rw [if_neg c] at h
      obtain ⟨v, k1, k2⟩ := a2.dat i y h
      rw [wipe_get, if_neg c] at k1
      exact ⟨v, k1, k2⟩
  · obtain ⟨c, k⟩ := go i s xs h1 h2
    obtain ⟨p, us, k1, k2⟩ := a2.own i s xs k h2
    rw [wipe_get, if_neg c] at k1
    exact ⟨p, us, k1, k2⟩
  · obtain ⟨n1, k1⟩ := go i s xs h1 h2
    obtain ⟨n2, k2⟩ := go j t ys h3 h4
    refine a2.sep i j s t p xs ys k1 h2 k2 h4 ?_ ?_
    · rw [wipe_get, if_neg n1]
      exact h5
    · rw [wipe_get, if_neg n2]
      exact h6
  · have c : i ∉ vs := fun z => by
      rw [free_pn a1 hf i z] at hb
      cases hb
    obtain ⟨⟨xs, k1⟩, k2⟩ := a2.pin i b hb
    rw [wipe_get, if_neg c] at k2
    exact ⟨⟨xs, by rw [restE_get, if_neg c]; exact k1⟩, k2⟩
theorem ow_rest {e1 e2 : En} {b : Addr} (hf : vsFree e1 vs = true) (h : Ow σ (restE e1 e2 vs) b) : Ow (L2.wipe σ vs) e2 b := by
  obtain ⟨i, s, xs, h1, h2, h3⟩ := h
  rw [restE_get] at h1
  by_cases c : i ∈ vs
  · rw [if_pos c] at h1
    split at h1
    · cases h1
      rw [List.getD_eq_getElem?_getD] at h2
      rcases free_at hf c with z | ⟨y, z⟩ <;> rw [z] at h2 <;> cases h2
    · cases h1
  · rw [if_neg c] at h1
    exact ⟨i, s, xs, h1, h2, by rw [wipe_get, if_neg c]; exact h3⟩
/-- an object that nothing here speaks of changes -/
theorem At.oth (a : At W σ e B H) {p : Addr} {o : HO} (h0 : B p = none) (no : ¬ Ow σ e p) : At W σ e B (upd H p o) where
  ex := Ex.mut a.ex h0
  nm := fun b hb => by
    by_cases c : b = p
    · subst c
      rw [upd_same] at hb
      cases hb
    · rw [upd_ne c] at hb
      exact a.nm b hb
  len := a.len
  dat := a.dat
  own := fun i s xs h1 h2 => by
    obtain ⟨q, us, g1, g2, g3, g4, g5⟩ := a.own i s xs h1 h2
    have qp : q ≠ p := fun z => by
      subst z
      exact no ⟨i, s, xs, h1, h2, g1⟩
    exact ⟨q, us, g1, g2, g3, by rw [upd_ne qp]; exact g4, g5⟩
  sep := a.sep
  pin := a.pin
theorem Go.put {M : Addr → Prop} {B H B' H' : Hp} {p : Addr} {o : HO} (g : Go M B H B' H') (hp : H p = none) : Go M B H B' (upd H' p o) :=
  ⟨g.hg, fun b u hM h => by
    have c : b ≠ p := fun z => by
      subst z
      rw [hp] at h
      cases h
    rw [upd_ne c]
    exact g.fr b u hM h, fun b h => by
    by_cases c : b = p
    · subst c
      rw [upd_same] at h
      cases h
    · rw [upd_ne c] at h
      exact g.dm b h, g.sp⟩
end
def runLc (g : PyData → En → Option En) (t : Dn Bool) (f : Dn PyData) (vs : List Nat) : List PyData → En → Option (List PyData × En)
  | [] => fun e => some ([], e)
  | d :: ds => fun e => match g d e with
    | none => none
    | some e1 => match t e1 with
      | none => none
      | some (false, e2) => runLc g t f vs ds (wipeE e2 vs)
      | some (true, e2) => match f e2 with
        | none => none
        | some (y, e3) => match runLc g t f vs ds (wipeE e3 vs) with
          | none => none
          | some (ys, e4) => some (y :: ys, e4)
def fewer (ds : List PyData) : Bool := decide (ds.length ≤ 40000)
def dLc (it : Dn (List PyData)) (g : PyData → En → Option En) (t : Dn Bool) (f : Dn PyData) (vs : List Nat) : Dn (List PyData) := fun e => match it e with
  | none => none
  | some (ds, e1) => if (vsFree e1 vs && fewer ds) = true then (match runLc g t f vs ds (wipeE e1 vs) with
    | none => none
    | some (ys, e2) => some (ys, restE e1 e2 vs)) else none
section
variable {K : PySem.W.Frag} {wi : TI} {g : TG} {tt : TT} {te : TE} {sl vs : List Nat} {it : Dn (List PyData)} {fg : PyData → En → Option En} {ft : Dn Bool} {f : Dn PyData}
theorem sl_lc (hi : SI K wi it) (hg : SG K g sl fg) (ht : ST K tt ft) (he : SE K te f) (hs : ∀ i ∈ sl, i ∈ vs) : SL K (tLc wi g tt te vs) (dLc it fg ft f vs) := fun W hW σ e B H a ys e' h' Q q => by
  unfold dLc at h'
  split at h'
  · cases h'
  rename_i ds e1 h1
  by_cases hc : (vsFree e1 vs && fewer ds) = true
  case neg =>
    rw [if_neg hc] at h'
    cases h'
  rw [if_pos hc] at h'
  rw [Bool.and_eq_true] at hc
  obtain ⟨hf, hlen⟩ := hc
  have hlen := of_decide_eq_true hlen
  split at h'
  · cases h'
  rename_i ys2 e2 h2
  cases h'
  refine hi W hW σ e B H a ds e1 h1 _ fun J B1 H1 a1 g1 wk => fun Dl hD => ?_
  have hpn := free_pn a1 hf
  have noD : ¬ Ow σ e1 Dl := fun z => (a1.ow z).2.1 hD
  have BD : B1 Dl = none := fresh_back a1.ex hD
  have aw : At W (L2.wipe σ vs) (wipeE e1 vs) B1 H1 := a1.wipe hpn
  refine ⟨fun i m H' => ∃ (e' : En) (B' : Hp) (acc : List V) (accd ys' : List PyData), At W (L2.wipe σ vs) e' B' H' ∧ Go (Ow σ e1) B1 H1 B' H' ∧ (∀ b, Ow (L2.wipe σ vs) e' b → Ow σ e1 b) ∧ H' Dl = some (.lst acc) ∧ B' Dl = none ∧ DqAll K B' acc accd ∧ i ≤ ds.length ∧ m = ds.length - i ∧
    runLc fg ft f vs (ds.drop i) e' = some (ys', e2) ∧ accd ++ ys' = ys ∧ accd.length ≤ i, ⟨_, _, B1, [], [], ys, aw.oth BD (fun z => noD (ow_wipe z)), (Go.refl _ _ _).put hD, fun b => ow_wipe, upd_same, BD, .nil, Nat.zero_le _, rfl, h2, rfl, Nat.le_refl _⟩, ?_⟩
  rintro i m H' ⟨e', B', acc, accd, ys', a', g', o', hl', hB', hd', hi', rfl, hr', hys, hal⟩
  by_cases hlt : i < ds.length
  · refine .inr ⟨wk.go i B' H' g'.hg a'.ex hlt, fun H2 => ∃ (e' : En) (B' : Hp) (acc : List V) (accd ys' : List PyData), At W (L2.wipe σ vs) e' B' H2 ∧ Go (Ow σ e1) B1 H1 B' H2 ∧ (∀ b, Ow (L2.wipe σ vs) e' b → Ow σ e1 b) ∧ H2 Dl = some (.lst acc) ∧ B' Dl = none ∧ DqAll K B' acc accd ∧
      runLc fg ft f vs (ds.drop (i + 1)) e' = some (ys', e2) ∧ accd ++ ys' = ys ∧ accd.length ≤ i + 1, ?_, ?_⟩
    · rintro H2 ⟨e', B', acc, accd, ys', p1, p2, p3, p4, p5, p6, p7, p8, p9⟩
      exact ⟨ds.length - (i + 1), by omega, e', B', acc, accd, ys', p1, p2, p3, p4, p5, p6, hlt, rfl, p7, p8, p9⟩
    intro x H2 hy
    obtain ⟨B2, gr, hdx⟩ := wk.yl i ds[i] B' H' x H2 g'.hg a'.ex (List.getElem?_eq_getElem hlt) hy
    rw [List.drop_eq_getElem_cons hlt] at hr'
    unfold runLc at hr'
    have a2 := a'.gr gr
    have g2 : Go (Ow σ e1) B1 H1 B2 H2 := g'.trans (.gr gr)
    split at hr'
    · cases hr'
    rename_i e3 h3
    refine hg W hW (L2.wipe σ vs) e' B2 H2 x _ a2 hdx e3 h3 _ fun σ3 a3 o3 w3 l3 => ?_
    have sw : L2.wipe σ3 vs = L2.wipe σ vs := by
      rw [← wipe_wipe σ vs]
      exact wipe_same l3 fun j hj => w3 j fun z => hj (hs j z)
    refine ⟨sw, ?_⟩
    have o3' : ∀ b, Ow σ3 e3 b → Ow σ e1 b := fun b hb => o' b (o3 b hb)
    have no3 : ¬ Ow σ3 e3 Dl := fun z => noD (o3' _ z)
    have hl2 : H2 Dl = some (.lst acc) := gr.h12 _ _ hl'
    have hne2 : H2 Dl ≠ none := by rw [hl2]; exact fun z => nomatch z
    have hB2 : B2 Dl = none := gr.sep Dl hB' (by rw [hl']; exact fun z => nomatch z)
    split at hr'
    · cases hr'
    · rename_i e4 h4
      refine ht W hW σ3 e3 B2 H2 a3 _ e4 h4 _ fun B4 H4 a4 g4 => ?_
      rw [if_neg Bool.false_ne_true]
      have a5 := a4.wipe hpn
      rw [sw] at a5
      refine ⟨wipeE e4 vs, B4, acc, accd, ys', a5, g2.trans (g4.go.mono o3'), fun b hb => o3' b (g4.ow b ?_), g4.go.fr _ _ no3 hl2, g4.go.sp Dl no3 hB2 hne2, dpa_mono (gr.hg.trans g4.go.hg) hd', hr', hys, by omega⟩
      rw [← sw] at hb
      exact ow_wipe hb
    · rename_i e4 h4
      refine ht W hW σ3 e3 B2 H2 a3 _ e4 h4 _ fun B4 H4 a4 g4 => ?_
      rw [if_pos rfl]
      split at hr'
      · cases hr'
      rename_i y e5 h5
      split at hr'
      · cases hr'
      rename_i ys3 e6 h6
      cases hr'
      have hl4 := g4.go.fr _ _ no3 hl2
      have hB4 := g4.go.sp Dl no3 hB2 hne2
      have no4 : ¬ Ow σ3 e4 Dl := fun z => no3 (g4.ow _ z)
      refine he W hW σ3 e4 B4 H4 a4 y e5 h5 _ fun v B5 H5 a5 g5 d5 => ?_
      have hl5 := g5.go.fr _ _ no4 hl4
      have hB5 := g5.go.sp Dl no4 hB4 (by rw [hl4]; exact fun z => nomatch z)
      have no5 : ¬ Ow σ3 e5 Dl := fun z => no4 (g5.ow _ z)
      have hal2 := DqAll.length hd'
      have a6 := (a5.oth (o := .lst (acc ++ [v])) hB5 no5).wipe hpn
      rw [sw] at a6
      refine ⟨acc, hl5, sz_lt (by omega), wipeE e5 vs, B5, acc ++ [v], accd ++ [y], ys3, a6, Go.put ((g2.trans (g4.go.mono o3')).trans (g5.go.mono fun b hb => o3' b (g4.ow b hb))) hD, fun b hb => o3' b (g4.ow b (g5.ow b ?_)), upd_same, hB5, ?_, h6, ?_, ?_⟩
      · rw [← sw] at hb
        exact ow_wipe hb
      · exact (dpa_mono ((gr.hg.trans g4.go.hg).trans g5.go.hg) hd').append (.one d5)
      · rw [List.append_assoc]
        exact hys
      · rw [List.length_append]
        show accd.length + 1 ≤ i + 1
        omega
  · have ei : i = ds.length := by omega
    subst ei
    rw [List.drop_length] at hr'
    unfold runLc at hr'
    cases hr'
    rw [List.append_nil] at hys
    subst hys
    refine .inl ⟨wk.st B' H' g'.hg a'.ex, ?_⟩
    exact q Dl acc B' H' (a1.rest hf g'.hg a') (g1.trans ⟨g', fun b hb => o' b (ow_rest hf hb)⟩) (g1.go.dm Dl hD) hl' hB' hd'
end
end Fd
end

section
set_option Elab.async false
set_option linter.all false
set_option maxRecDepth 100000
set_option maxHeartbeats 1000000
/-! Walks by meaning 5: defs and calls. -/
variable [Fd.Uw]
namespace Fd
open PySem PySem.Spec PyProof.Rows L2 Evl Tb

/-! ### what a def promises -/
def spF (K : PySem.W.Frag) (n : Nat) (F : List PyData → Option PyData) : Sp := fun vs H Q _ => ∃ (B : Hp) (ds : List PyData) (d : PyData), Ex B H ∧ ds.length = n ∧ DqAll K B vs ds ∧ F ds = some d ∧ ∀ v B' H', Gr B H B' H' → Dq K B' v d → Q v H'
def spL (K : PySem.W.Frag) (n : Nat) (F : List PyData → Option (List PyData)) : Sp := fun vs H Q _ => ∃ (B : Hp) (ds xs : List PyData), Ex B H ∧ ds.length = n ∧ DqAll K B vs ds ∧ F ds = some xs ∧
  ∀ p us B' H', Gr B H B' H' → H p = none → H' p = some (.lst us) → B' p = none → DqAll K B' us xs → Q (.ref p) H'
/-- the first argument is a list that may change -/
def spM (K : PySem.W.Frag) (n : Nat) (F : List PyData → List PyData → Option (PyData × List PyData)) : Sp := fun vs H Q _ => ∃ (B : Hp) (p : Addr) (us ws : List V) (xs ds : List PyData) (d : PyData) (ys : List PyData), vs = .ref p :: ws ∧ Ex B H ∧ B p = none ∧ H p = some (.lst us) ∧ DqAll K B us xs ∧
  ds.length + 1 = n ∧ DqAll K B ws ds ∧ F xs ds = some (d, ys) ∧ ∀ v us' B' H', Go (fun b => b = p) B H B' H' → Ex B' H' → B' p = none → H' p = some (.lst us') → DqAll K B' us' ys → Dq K B' v d → Q v H'
def spML (K : PySem.W.Frag) (n : Nat) (F : List PyData → List PyData → Option (List PyData × List PyData)) : Sp := fun vs H Q _ => ∃ (B : Hp) (p : Addr) (us ws : List V) (xs ds zs ys : List PyData), vs = .ref p :: ws ∧ Ex B H ∧ B p = none ∧ H p = some (.lst us) ∧ DqAll K B us xs ∧
  ds.length + 1 = n ∧ DqAll K B ws ds ∧ F xs ds = some (zs, ys) ∧ ∀ q ts us' B' H', Go (fun b => b = p) B H B' H' → Ex B' H' → B' p = none → H' p = some (.lst us') → DqAll K B' us' ys → H q = none → H' q = some (.lst ts) → B' q = none → DqAll K B' ts zs → Q (.ref q) H'
section
variable {K : PySem.W.Frag} {n : Nat} {ps : List Str}
theorem spF_len {F : List PyData → Option PyData} (hn : n = ps.length) : ∀ vs H Q E, spF K n F vs H Q E → vs.length = ps.length := fun vs H Q E h => by
  obtain ⟨B, ds, d, _, hl, hd, _⟩ := h
  rw [DqAll.length hd, hl, hn]
theorem spL_len {F : List PyData → Option (List PyData)} (hn : n = ps.length) : ∀ vs H Q E, spL K n F vs H Q E → vs.length = ps.length := fun vs H Q E h => by
  obtain ⟨B, ds, d, _, hl, hd, _⟩ := h
  rw [DqAll.length hd, hl, hn]
theorem spM_len {F : List PyData → List PyData → Option (PyData × List PyData)} (hn : n = ps.length) : ∀ vs H Q E, spM K n F vs H Q E → vs.length = ps.length := fun vs H Q E h => by
  obtain ⟨B, p, us, ws, xs, ds, d, ys, rfl, _, _, _, _, hl, hd, _⟩ := h
  rw [List.length_cons, DqAll.length hd, hl, hn]
theorem spML_len {F : List PyData → List PyData → Option (List PyData × List PyData)} (hn : n = ps.length) : ∀ vs H Q E, spML K n F vs H Q E → vs.length = ps.length := fun vs H Q E h => by
  obtain ⟨B, p, us, ws, xs, ds, d, ys, rfl, _, _, _, _, hl, hd, _⟩ := h
  rw [List.length_cons, DqAll.length hd, hl, hn]
end

/-! ### calls -/
def dCall (n : Nat) (F : List PyData → Option PyData) (dds : List PyData) (fl : Dn (List PyData)) : Dn PyData := dBind fl fun ds => if (ds ++ dds).length = n then dLift (F (ds ++ dds)) else fun _ => none
def dCallL (n : Nat) (F : List PyData → Option (List PyData)) (dds : List PyData) (fl : Dn (List PyData)) : Dn (List PyData) := dBind fl fun ds => if (ds ++ dds).length = n then dLift (F (ds ++ dds)) else fun _ => none
def ownB (e : En) (i : Nat) : Bool := match e[i]? with
  | some (.o _) => true
  | some (.p _) => true
  | _ => false
def dCallM {α : Type} (i n : Nat) (F : List PyData → List PyData → Option (α × List PyData)) (fl : Dn (List PyData)) : Dn α := fun e => if ownB e i = true then (match fl e with
  | none => none
  | some (ds, e1) => if ds.length + 1 = n then (match e1[i]? with
    | some (.o xs) => match F xs ds with
      | some (z, ys) => some (z, e1.set i (.o ys))
      | none => none
    | some (.p xs) => match F xs ds with
      | some (z, ys) => some (z, e1.set i (.p ys))
      | none => none
    | _ => none) else none) else none
theorem ownB_some {e : En} {i : Nat} (h : ownB e i = true) : ∃ s xs, e[i]? = some s ∧ s.own = some (.l xs) := by
  unfold ownB at h
  split at h
  · exact ⟨_, _, by assumption, rfl⟩
  · exact ⟨_, _, by assumption, rfl⟩
  · cases h
section
variable {K : PySem.W.Frag} {n : Nat} {ta : TA} {fl : Dn (List PyData)} {E : XK} {W : Wo} {σ : L2.St} {e : En} {B H : Hp}
theorem se_call {F : List PyData → Option PyData} {dvs : List V} {dds : List PyData} (hv : ∀ H, DqAll K H dvs dds) (h : SA K ta fl) : SE K (tCall (spF K n F) dvs E ta) (dCall n F dds fl) := fun W hW σ e B H a d e' h' Q q => by
  obtain ⟨ds, e1, h1, h2⟩ := dBind_some h'
  split at h2
  · rename_i hl
    obtain ⟨h3, rfl⟩ := dLift_some h2
    refine h W hW σ e B H a ds e' h1 _ fun vs B1 H1 a1 g1 d1 => ⟨B1, ds ++ dds, d, a1.ex, hl, d1.append (hv _), h3, fun v B2 H2 g2 hd => q v B2 H2 (a1.gr g2) (g1.trans (gx_gr g2)) hd⟩
  · cases h2
theorem sl_call {F : List PyData → Option (List PyData)} {dvs : List V} {dds : List PyData} (hv : ∀ H, DqAll K H dvs dds) (h : SA K ta fl) : SL K (tCall (spL K n F) dvs E ta) (dCallL n F dds fl) := fun W hW σ e B H a d e' h' Q q => by
  obtain ⟨ds, e1, h1, h2⟩ := dBind_some h'
  split at h2
  · rename_i hl
    obtain ⟨h3, rfl⟩ := dLift_some h2
    refine h W hW σ e B H a ds e' h1 _ fun vs B1 H1 a1 g1 d1 => ⟨B1, ds ++ dds, d, a1.ex, hl, d1.append (hv _), h3, fun p us B2 H2 g2 p0 hp pB hd => q p us B2 H2 (a1.gr g2) (g1.trans (gx_gr g2)) (g1.go.dm p p0) hp pB hd⟩
  · cases h2
/-- the list at a slot has changed, and new things stand -/
theorem At.stepC (a : At W σ e B H) {i : Nat} {s s' : Sl} {xs ys : Cn} {p : Addr} {us : HO} {B' H' : Hp} (hi : e[i]? = some s) (hs : s.own = some xs) (hs' : s'.own = some ys) (hP : s.isP = s'.isP) (hp : σ[i]? = some (some (.ref p)))
    (g : Go (fun b => b = p) B H B' H') (x : Ex B' H') (hB : B' p = none) (hl : H' p = some us) (hv : CnO W.K B' p us ys) : At W σ (e.set i s') B' H' ∧ Gx σ e B H (e.set i s') B' H' := by
  have old : ∀ (j : Nat) (t : Sl) zs, (e.set i s')[j]? = some t → t.own = some zs → ∃ t' zs', e[j]? = some t' ∧ t'.own = some zs' := fun j t zs h1 h2 => by
    rcases set_cases h1 with ⟨rfl, rfl, hlt⟩ | ⟨c, h⟩
    · exact ⟨s, xs, hi, hs⟩
    · exact ⟨t, zs, h, h2⟩
  refine ⟨⟨x, fun b hb => a.nm b (g.dm b hb), by rw [List.length_set]; exact a.len, fun j y h => ?_, fun j t zs h1 h2 => ?_, fun j k t u q zs ws h1 h2 h3 h4 h5 h6 => ?_, fun j b hb => ?_⟩, ⟨g.mono fun b hb => ⟨i, s, xs, hi, hs, by rw [hb]; exact hp⟩, fun b hb => ?_⟩⟩
  · rcases set_cases h with ⟨rfl, e1, hl⟩ | ⟨c, h⟩
    · subst e1
      cases hs'
    · obtain ⟨v, k1, k2⟩ := a.dat j y h
      exact ⟨v, k1, dp_mono g.hg k2⟩
  · rcases set_cases h1 with ⟨rfl, rfl, hlt⟩ | ⟨c, h⟩
    · rw [hs'] at h2
      cases h2
      obtain ⟨q, us', k1, k2, k3, k4, k5⟩ := a.own j s xs hi hs
      rw [hp] at k1
      cases k1
      exact ⟨p, us, hp, k2, hB, hl, hv⟩
    · obtain ⟨q, us', k1, k2, k3, k4, k5⟩ := a.own j t zs h h2
      have qp : ¬ q = p := fun z => by
        subst z
        exact c (a.sep j i t s q zs xs h h2 hi hs k1 hp)
      exact ⟨q, us', k1, k2, g.sp q qp k3 (by rw [k4]; exact fun z => nomatch z), g.fr q _ qp k4, cn_mono g.hg k5⟩
  · obtain ⟨t1, z1, m1, m2⟩ := old j t zs h1 h2
    obtain ⟨t2, z2, m3, m4⟩ := old k u ws h3 h4
    exact a.sep j k t1 t2 q z1 z2 m1 m2 m3 m4 h5 h6
  · obtain ⟨⟨zs, k1⟩, k2⟩ := a.pin j b hb
    refine ⟨?_, k2⟩
    by_cases c : j = i
    · subst c
      rw [k1] at hi
      cases hi
      cases s' with
      | p ws => exact ⟨ws, getElem?_set_eq k1⟩
      | no => cases hP
      | d x => cases hP
      | o x => cases hP
      | q x => cases hP
      | u x => cases hP
    · exact ⟨zs, by rw [List.getElem?_set_ne (Ne.symm c)]; exact k1⟩
  · obtain ⟨j, t, zs, h1, h2, h3⟩ := hb
    obtain ⟨t', zs', k1, k2⟩ := old j t zs h1 h2
    exact ⟨j, t', zs', k1, k2, h3⟩
theorem At.step (a : At W σ e B H) {i : Nat} {s s' : Sl} {xs ys : List PyData} {p : Addr} {us : List V} {B' H' : Hp} (hi : e[i]? = some s) (hs : s.own = some (.l xs)) (hs' : s'.own = some (.l ys)) (hP : s.isP = s'.isP) (hp : σ[i]? = some (some (.ref p)))
    (g : Go (fun b => b = p) B H B' H') (x : Ex B' H') (hB : B' p = none) (hl : H' p = some (.lst us)) (hv : DqAll W.K B' us ys) : At W σ (e.set i s') B' H' ∧ Gx σ e B H (e.set i s') B' H' :=
  a.stepC hi hs hs' hP hp g x hB hl ⟨us, rfl, hv⟩
/-- the slot of a list that may change, behind the arguments -/
theorem own_at {i : Nat} {s : Sl} {xs : List PyData} (a : At W σ e B H) (hi : e[i]? = some s) (hs : s.own = some (.l xs)) : ∃ p us, σ[i]? = some (some (.ref p)) ∧ B p = none ∧ H p = some (.lst us) ∧ DqAll W.K B us xs := by
  obtain ⟨p, us, k1, k2, k3, k4, k5⟩ := a.ownl hi hs
  exact ⟨p, us, k1, k3, k4, k5⟩
theorem dCallM_some {α : Type} {i n : Nat} {F : List PyData → List PyData → Option (α × List PyData)} {fl : Dn (List PyData)} {e e' : En} {z : α} (h : dCallM i n F fl e = some (z, e')) :
    ∃ ds e1 s s' xs ys, ownB e i = true ∧ fl e = some (ds, e1) ∧ ds.length + 1 = n ∧ e1[i]? = some s ∧ s.own = some (.l xs) ∧ F xs ds = some (z, ys) ∧ s'.own = some (.l ys) ∧ s.isP = s'.isP ∧ e' = e1.set i s' := by
  unfold dCallM at h
  by_cases hob : ownB e i = true
  case neg =>
    rw [if_neg hob] at h
    cases h
  rw [if_pos hob] at h
  split at h
  · cases h
  rename_i ds e1 h1
  by_cases hl : ds.length + 1 = n
  · rw [if_pos hl] at h
    split at h
    · rename_i xs hx
      split at h
      · rename_i z' ys hF
        cases h
        exact ⟨ds, e1, _, .o ys, xs, ys, hob, h1, hl, hx, rfl, hF, rfl, rfl, rfl⟩
      · cases h
    · rename_i xs hx
      split at h
      · rename_i z' ys hF
        cases h
        exact ⟨ds, e1, _, .p ys, xs, ys, hob, h1, hl, hx, rfl, hF, rfl, rfl, rfl⟩
      · cases h
    · cases h
  · rw [if_neg hl] at h
    cases h
theorem se_callM {i : Nat} {F : List PyData → List PyData → Option (PyData × List PyData)} (h : SA K ta fl) : SE K (tCall (spM K n F) [] E (tCons (tVar i) ta)) (dCallM i n F fl) := fun W hW σ e B H a d e' h' Q q => by
  obtain ⟨ds, e1, s, s', xs, ys, h0, h1, hl, hi, hs, hF, hs', hP, rfl⟩ := dCallM_some h'
  obtain ⟨s0, xs0, i0, o0⟩ := ownB_some h0
  obtain ⟨p, us0, k1, _⟩ := own_at a i0 o0
  refine ⟨.ref p, k1, h W hW σ e B H a ds e1 h1 _ fun vs B1 H1 a1 g1 d1 => ?_⟩
  obtain ⟨p', us, k2, k3, k4, k5⟩ := own_at a1 hi hs
  rw [k1] at k2
  cases k2
  refine ⟨B1, p, us, vs, xs, ds, d, ys, by rw [List.append_nil], a1.ex, k3, k4, hW ▸ k5, hl, d1, hF, fun v us' B2 H2 g2 x2 z2 l2 d2 dv => ?_⟩
  obtain ⟨a2, gx⟩ := a1.step hi hs hs' hP k1 g2 x2 z2 l2 (hW ▸ d2)
  exact q v B2 H2 a2 (g1.trans gx) dv
theorem sl_callM {i : Nat} {F : List PyData → List PyData → Option (List PyData × List PyData)} (h : SA K ta fl) : SL K (tCall (spML K n F) [] E (tCons (tVar i) ta)) (dCallM i n F fl) := fun W hW σ e B H a d e' h' Q q => by
  obtain ⟨ds, e1, s, s', xs, ys, h0, h1, hl, hi, hs, hF, hs', hP, rfl⟩ := dCallM_some h'
  obtain ⟨s0, xs0, i0, o0⟩ := ownB_some h0
  obtain ⟨p, us0, k1, _⟩ := own_at a i0 o0
  refine ⟨.ref p, k1, h W hW σ e B H a ds e1 h1 _ fun vs B1 H1 a1 g1 d1 => ?_⟩
  obtain ⟨p', us, k2, k3, k4, k5⟩ := own_at a1 hi hs
  rw [k1] at k2
  cases k2
  refine ⟨B1, p, us, vs, xs, ds, d, ys, by rw [List.append_nil], a1.ex, k3, k4, hW ▸ k5, hl, d1, hF, fun r ts us' B2 H2 g2 x2 z2 l2 d2 r0 rl rB rd => ?_⟩
  obtain ⟨a2, gx⟩ := a1.step hi hs hs' hP k1 g2 x2 z2 l2 (hW ▸ d2)
  exact q r ts B2 H2 a2 (g1.trans gx) (g1.go.dm r r0) rl rB rd
end

/-! ### a def by its body -/
def init (ds : List PyData) (n : Nat) : En := ds.map .d ++ List.replicate n .no
def retD : Option Rs → Option PyData
  | some (.rt d _) => some d
  | some (.nx _) => some .none
  | some (.rl xs _) => some (.list xs)
  | _ => none
def fnD (n : Nat) (F : Ds) (ds : List PyData) : Option PyData := retD (F (init ds n))
def fnL (n : Nat) (F : Ds) (ds : List PyData) : Option (List PyData) := match F (init ds n) with
  | some (.rl xs _) => some xs
  | _ => none
def fnM (n : Nat) (F : Ds) (xs ds : List PyData) : Option (PyData × List PyData) := match F (.p xs :: init ds n) with
  | some (.rt d e) => match (e : En)[0]? with
    | some (Sl.p ys) => some (d, ys)
    | _ => none
  | some (.nx e) => match (e : En)[0]? with
    | some (Sl.p ys) => some (.none, ys)
    | _ => none
  | some (.rl zs e) => match (e : En)[0]? with
    | some (Sl.p ys) => some (.list zs, ys)
    | _ => none
  | _ => none
def fnML (n : Nat) (F : Ds) (xs ds : List PyData) : Option (List PyData × List PyData) := match F (.p xs :: init ds n) with
  | some (.rl zs e) => match (e : En)[0]? with
    | some (Sl.p ys) => some (zs, ys)
    | _ => none
  | _ => none
section
variable {K : PySem.W.Frag} {B H : Hp}
theorem start_get {N : List Str} {vs : List V} (i : Nat) (hi : i < vs.length) : (L2.start N vs)[i]? = some (some (vs[i]'hi)) := by
  unfold L2.start
  rw [List.getElem?_append_left (by rw [List.length_map]; exact hi), List.getElem?_map, List.getElem?_eq_getElem hi]
  rfl
theorem init_get {ds : List PyData} {n i : Nat} {s : Sl} (h : (init ds n)[i]? = some s) : (∃ d, ds[i]? = some d ∧ s = .d d) ∨ s = .no := by
  unfold init at h
  by_cases c : i < ds.length
  · rw [List.getElem?_append_left (by rw [List.length_map]; exact c), List.getElem?_map, List.getElem?_eq_getElem c] at h
    cases h
    exact .inl ⟨_, List.getElem?_eq_getElem c, rfl⟩
  · rw [List.getElem?_append_right (by rw [List.length_map]; omega)] at h
    exact .inr (List.eq_of_mem_replicate (List.mem_of_getElem? h))
theorem init_not_own {ds : List PyData} {n i : Nat} {s : Sl} {xs : Cn} (h : (init ds n)[i]? = some s) (o : s.own = some xs) : False := by
  rcases init_get h with ⟨d, _, rfl⟩ | rfl <;> cases o
/-- the slots at a def's begin -/
theorem at_start {N : List Str} {vs : List V} {ds : List PyData} {n : Nat} (x : Ex B H) (hd : DqAll K B vs ds) (hn : N.length = ds.length + n) : At ⟨K, fun b => H b = none, fun _ => none⟩ (L2.start N vs) (init ds n) B H where
  ex := x
  nm := fun _ h => h
  len := by
    have := DqAll.length hd
    unfold L2.start init
    rw [List.length_append, List.length_append, List.length_map, List.length_map, List.length_replicate, List.length_replicate]
    omega
  dat := fun i y h => by
    rcases init_get h with ⟨d, hd', e⟩ | e
    · cases e
      obtain ⟨v, k1, k2⟩ := hd.get' hd'
      have hi := (List.getElem?_eq_some_iff.mp k1).1
      refine ⟨v, ?_, k2⟩
      rw [start_get i hi]
      rw [List.getElem?_eq_getElem hi] at k1
      exact congrArg some k1
    · cases e
  own := fun i s xs h o => (init_not_own h o).elim
  sep := fun i j s t p xs ys h o => (init_not_own h o).elim
  pin := fun i a h => nomatch h
theorem at_startM {N : List Str} {p : Addr} {us vs : List V} {xs ds : List PyData} {n : Nat} (x : Ex B H) (hB : B p = none) (hl : H p = some (.lst us)) (hx : DqAll K B us xs) (hd : DqAll K B vs ds) (hn : N.length = ds.length + 1 + n) :
    At ⟨K, fun b => H b = none ∨ b = p, fun i => if i = 0 then some p else none⟩ (L2.start N (.ref p :: vs)) (.p xs :: init ds n) B H where
  ex := x
  nm := fun _ h => .inl h
  len := by
    have := DqAll.length hd
    unfold L2.start init
    simp only [List.length_cons, List.length_append, List.length_map, List.length_replicate]
    omega
  dat := fun i y h => by
    cases i with
    | zero => cases h
    | succ i =>
      rcases init_get (i := i) h with ⟨d, hd', e⟩ | e
      · cases e
        obtain ⟨v, k1, k2⟩ := hd.get' hd'
        have hi := (List.getElem?_eq_some_iff.mp k1).1
        refine ⟨v, ?_, k2⟩
        rw [start_get (i + 1) (by rw [List.length_cons]; omega)]
        rw [List.getElem?_eq_getElem hi] at k1
        exact congrArg some k1
      · cases e
  own := fun i s ys h o => by
    cases i with
    | zero =>
      cases h
      cases o
      exact ⟨p, .lst us, rfl, .inr rfl, hB, hl, us, rfl, hx⟩
    | succ i => exact (init_not_own (i := i) h o).elim
  sep := fun i j s t q ys zs h o h2 o2 _ _ => by
    cases i with
    | succ i => exact (init_not_own (i := i) h o).elim
    | zero =>
      cases j with
      | succ j => exact (init_not_own (i := j) h2 o2).elim
      | zero => rfl
  pin := fun i a h => by
    by_cases c : i = 0
    · subst c
      cases h
      exact ⟨⟨xs, rfl⟩, rfl⟩
    · simp only [if_neg c] at h
      cases h
theorem gr_of_go {B' H' : Hp} (g : Go (fun b => H b = none) B H B' H') (x : Ex B' H') : Gr B H B' H' :=
  ⟨g.hg, x, fun b o h => g.fr b o (fun z => by rw [z] at h; cases h) h, fun b h1 h2 => g.sp b h2 h1 h2⟩
variable {t : TS} {F : Ds} {N : List Str} {n m : Nat}
theorem body_F (h : SS K t F) (hn : N.length = m + n) {vs : List V} {Q : VK} {E : XK} (hs : spF K m (fnD n F) vs H Q E) : t { nx := fun _ H' => Q .non H', rt := Q } (L2.start N vs) H := by
  obtain ⟨B, ds, d, x, hl, hd, hF, q⟩ := hs
  have a := at_start x hd (by rw [hl]; exact hn)
  unfold fnD retD at hF
  split at hF
  · rename_i d' e' hr
    cases hF
    exact h _ rfl _ _ B H a _ hr _ fun v σ' B' H' a' g' dv => q v B' H' (gr_of_go g' a'.ex) dv
  · rename_i e' hr
    cases hF
    exact h _ rfl _ _ B H a _ hr _ fun σ' B' H' a' g' => q .non B' H' (gr_of_go g' a'.ex) .non
  · rename_i ys e' hr
    cases hF
    refine h _ rfl _ _ B H a _ hr _ fun p us σ' B' H' a' g' hM _ hp pB du => ?_
    exact q _ _ H' (gr_freeze pB hM (gr_of_go g' a'.ex) hp) (dp_freeze pB du)
  · cases hF
theorem body_L (h : SS K t F) (hn : N.length = m + n) {vs : List V} {Q : VK} {E : XK} (hs : spL K m (fnL n F) vs H Q E) : t { nx := fun _ H' => Q .non H', rt := Q } (L2.start N vs) H := by
  obtain ⟨B, ds, d, x, hl, hd, hF, q⟩ := hs
  have a := at_start x hd (by rw [hl]; exact hn)
  unfold fnL at hF
  split at hF
  · rename_i ys e' hr
    cases hF
    exact h _ rfl _ _ B H a _ hr _ fun p us σ' B' H' a' g' hM _ hp pB du => q p us B' H' (gr_of_go g' a'.ex) hM hp pB du
  · cases hF
theorem go_p {p : Addr} {B' H' : Hp} (g : Go (fun b => H b = none ∨ b = p) B H B' H') : Go (fun b => b = p) B H B' H' :=
  ⟨g.hg, fun b o hb h => g.fr b o (fun z => z.elim (fun z => by rw [z] at h; cases h) hb) h, g.dm, fun b hb h1 h2 => g.sp b (fun z => z.elim h2 hb) h1 h2⟩
theorem pin_at {W : Wo} {σ : L2.St} {e : En} {p : Addr} {ys : List PyData} (a : At W σ e B H) (hp : W.pn 0 = some p) (h0 : e[0]? = some (.p ys)) : ∃ us, B p = none ∧ H p = some (.lst us) ∧ DqAll W.K B us ys := by
  obtain ⟨_, k2⟩ := a.pin 0 p hp
  obtain ⟨p', us, k1, _, k3, k4, k5⟩ := a.ownl h0 rfl
  rw [k2] at k1
  cases k1
  exact ⟨us, k3, k4, k5⟩
theorem body_M (h : SS K t F) (hn : N.length = m + n) {vs : List V} {Q : VK} {E : XK} (hs : spM K m (fnM n F) vs H Q E) : t { nx := fun _ H' => Q .non H', rt := Q } (L2.start N vs) H := by
  obtain ⟨B, p, us, ws, xs, ds, d, ys, rfl, x, hB, hl, hx, hm, hd, hF, q⟩ := hs
  have a := at_startM (N := N) (n := n) x hB hl hx hd (by rw [hm]; exact hn)
  unfold fnM at hF
  split at hF
  · rename_i d' e' hr
    split at hF
    · rename_i ys' h0
      cases hF
      refine h _ rfl _ _ B H a _ hr _ fun v σ' B' H' a' g' dv => ?_
      obtain ⟨us', k1, k2, k3⟩ := pin_at a' rfl h0
      exact q v us' B' H' (go_p g') a'.ex k1 k2 k3 dv
    · cases hF
  · rename_i e' hr
    split at hF
    · rename_i ys' h0
      cases hF
      refine h _ rfl _ _ B H a _ hr _ fun σ' B' H' a' g' => ?_
      obtain ⟨us', k1, k2, k3⟩ := pin_at a' rfl h0
      exact q .non us' B' H' (go_p g') a'.ex k1 k2 k3 .non
    · cases hF
  · rename_i zs e' hr
    split at hF
    · rename_i ys' h0
      cases hF
      refine h _ rfl _ _ B H a _ hr _ fun r rs σ' B' H' a' g' hM hpn hp pB du => ?_
      obtain ⟨us', k1, k2, k3⟩ := pin_at a' rfl h0
      have rp : r ≠ p := fun z => hpn 0 (by rw [z]; rfl)
      have hr0 : H r = none := hM.elim id fun z => absurd z rp
      have g2 : Go (fun b => b = p) B H (upd B' r (.lst rs)) H' := ⟨(go_p g').hg.trans (Ex.new pB), (go_p g').fr, (go_p g').dm, fun b hb h1 h2 => by
        have c : b ≠ r := fun z => by
          subst z
          exact h2 hr0
        rw [upd_ne c]
        exact (go_p g').sp b hb h1 h2⟩
      refine q _ us' _ H' g2 (fun b o hb => ?_) (by rw [upd_ne rp.symm]; exact k1) k2 (dpa_mono (Ex.new pB) k3) (.lst (sq_of upd_same) (dpa_mono (Ex.new pB) du))
      by_cases c : b = r
      · subst c
        rw [upd_same] at hb
        cases hb
        exact hp
      · rw [upd_ne c] at hb
        exact a'.ex b o hb
    · cases hF
  · cases hF
theorem body_ML (h : SS K t F) (hn : N.length = m + n) {vs : List V} {Q : VK} {E : XK} (hs : spML K m (fnML n F) vs H Q E) : t { nx := fun _ H' => Q .non H', rt := Q } (L2.start N vs) H := by
  obtain ⟨B, p, us, ws, xs, ds, d, ys, rfl, x, hB, hl, hx, hm, hd, hF, q⟩ := hs
  have a := at_startM (N := N) (n := n) x hB hl hx hd (by rw [hm]; exact hn)
  unfold fnML at hF
  split at hF
  · rename_i zs e' hr
    split at hF
    · rename_i ys' h0
      cases hF
      refine h _ rfl _ _ B H a _ hr _ fun r rs σ' B' H' a' g' hM hpn hp pB du => ?_
      obtain ⟨us', k1, k2, k3⟩ := pin_at a' rfl h0
      have rp : r ≠ p := fun z => hpn 0 (by rw [z]; rfl)
      have hr0 : H r = none := hM.elim id fun z => absurd z rp
      exact q r rs us' B' H' (go_p g') a'.ex k1 k2 k3 hr0 hp pB du
    · cases hF
  · cases hF
end
end Fd
end

section
set_option Elab.async false
set_option linter.all false
set_option maxRecDepth 100000
set_option maxHeartbeats 1000000
/-! Walks by meaning 6: operators and built-ins over data. -/
variable [Fd.Uw]
namespace Fd
open PySem PySem.Spec PyProof.Rows L2 Evl Tb

/-! ### list + list, whatever is known of them -/
theorem cat_any (l : Addr) (items : Array Value) (n : Nat) (b : Addr) (items2 : Array Value) (n2 : Nat) (d1 d2 : Option Addr) (s1 s2 : Array (Option Value)) (hc0 : items.size + items2.size ≤ sizeLine) :
    Meets (Builtin.«list.__add__» ⟨[.ref l, .ref b], []⟩) (fun _ R s => s.heap.get? l = some { cls := .type "list", dict := d1, data := .seq items n, slots := s1 } ∧ s.heap.get? b = some { cls := .type "list", dict := d2, data := .seq items2 n2, slots := s2 } ∧ R (.ok (.ret (Value.ref s.heap.objs.size))) { s with heap := s.heap.push { cls := Value.type "list", data := Data.seq (items ++ items2) }, toks := s.toks }) :=
  .of_wp fun prog w A R s h => by
    obtain ⟨hp, g, d, tk, os⟩ := s; obtain ⟨hl, hb, h⟩ := h
    have f1 := AutoSeq1.idx_int; have f2 := AutoSeq1.sub_tuple_tuple; have f3 := AutoSeq1.sub_list_list; have f4 := AutoSeq1.sub_tuple_list; have f5 := AutoSeq1.sub_list_tuple
    wp_walk using AutoSeq1.wpAny_loadPart' hl, AutoSeq1.wpAny_loadPart' hb
    exact ⟨_, rfl, h⟩
def rCatL (K : PySem.W.Frag) : R2 := fun x y H Q => ∃ l b xs zs, x = .ref l ∧ y = .ref b ∧ SqL K H l xs ∧ SqL K H b zs ∧ xs.length + zs.length ≤ sizeLine ∧ ∀ p, H p = none → Q (.ref p) (upd H p (.lst (xs ++ zs)))
theorem op_catL {X : Cx} : OpR X (binaryOp .Add) (rCatL X.K) := by
  intro pins s σ H x y v u Q I rx ry h
  obtain ⟨l, b, xs, zs, rfl, rfl, hH, hB, hz, q⟩ := h
  cases rx
  cases ry
  obtain ⟨its, r, ⟨⟨c1, dd1, da1, sl1⟩, n1, ho1, hc1, hd1, hs1⟩, z1⟩ := I.list hH
  obtain ⟨its2, r2, ⟨⟨c2, dd2, da2, sl2⟩, n2, ho2, hc2, hd2, hs2⟩, z2⟩ := I.list hB
  simp only at hc1 hs1 hc2 hs2
  subst hc1 hs1 hc2 hs2
  have e1 := r.length
  have e2 := r2.length
  refine PySem.concat_meets ⟨_, ho1, rfl⟩ ⟨_, ho2, rfl⟩ noFill_list_add seq_list_add F.slot_list_add F.entry_list_add (F.args_list_add_2 _ _) (cat_any l its.toArray n1 b its2.toArray n2 dd1 dd2 sl1 sl2 (by rw [List.size_toArray, List.size_toArray]; omega)) ⟨ho1, ho2, ?_⟩
  have ea : its.toArray ++ its2.toArray = (its ++ its2).toArray := by simp
  rw [ea]
  exact ⟨.ref _, _, I.lnew (t' := s.toks) (r.append r2) (by rw [List.length_append]; omega), rfl, q _ I.fresh⟩
def rAddS : R2 := fun x y H Q => ∃ i j : Str, x = .str i ∧ y = .str j ∧ i.length + j.length ≤ sizeLine ∧ Q (.str (i ++ j)) H
/-- + of ints, lists, tuples, texts -/
def rAddU (K : PySem.W.Frag) : R2 := fun x y H Q => rI0 (fun i j => .int (i + j)) x y H Q ∨ rCatL K x y H Q ∨ rCatZ K x y H Q ∨ rAddS x y H Q
theorem op_addU {X : Cx} : OpR X (binaryOp .Add) (rAddU X.K) := by
  intro pins s σ H x y v u Q I rx ry h
  rcases h with h | h | h | h
  · exact op_add pins s σ H x y v u Q I rx ry h
  · exact op_catL pins s σ H x y v u Q I rx ry h
  · exact op_catZ pins s σ H x y v u Q I rx ry h
  · exact op_add_str pins s σ H x y v u Q I rx ry h
def addD : PyData → PyData → Option PyData
  | .int i, .int j => some (.int (i + j))
  | .list xs, .list ys => if xs.length + ys.length ≤ 100000 then some (.list (xs ++ ys)) else none
  | .tuple xs, .tuple ys => if xs.length + ys.length ≤ 100000 then some (.tuple (xs ++ ys)) else none
  | .str x, .str y => if x.length + y.length ≤ 100000 then some (.str (x ++ y)) else none
  | _, _ => none
def addL : PyData → PyData → Option (List PyData)
  | .list xs, .list ys => if xs.length + ys.length ≤ 100000 then some (xs ++ ys) else none
  | _, _ => none
section
variable {K : PySem.W.Frag} {B : Hp}
theorem rd_catZ {ds es : List PyData} (hl : ds.length + es.length ≤ 100000) : RD K (rCatZ K) (.tuple ds) (.tuple es) B (.tuple (ds ++ es)) := fun x y H1 ex hx hy Q q => by
  obtain ⟨a, xs, rfl, hs, hd⟩ := Dq.tup_of hx
  obtain ⟨b, ys, rfl, hs2, hd2⟩ := Dq.tup_of hy
  have e1 := hd.length
  have e2 := hd2.length
  refine ⟨a, b, xs, ys, rfl, rfl, ex_t ex hs, ex_t ex hs2, sz_of (by omega), fun z => ?_, fun _ z => ?_, fun _ _ p o hp hoc hod => ?_⟩
  · subst z
    cases hd
    exact q _ B H1 (.refl ex) hy
  · subst z
    cases hd2
    rw [List.append_nil] at q
    exact q _ B H1 (.refl ex) hx
  · exact q _ _ _ (Gr.new ex hp) (.tupZ hoc hod upd_same (dpa_mono (Ex.new (fresh_back ex hp)) (hd.append hd2)))
theorem rf_add (x y z : PyData) (h : addD x y = some z) : RD K (rAddU K) x y B z := by
  unfold addD at h
  split at h
  · cases h
    exact fun a b H1 e hx hy Q q => .inl ⟨_, _, hx.int_of, hy.int_of, q _ B H1 (.refl e) (.int _)⟩
  · rename_i xs ys
    split at h
    · rename_i hz
      cases h
      refine fun a b H1 e hx hy Q q => .inr (.inl ?_)
      obtain ⟨p, us, rfl, h1, h2⟩ := hx.lst_of
      obtain ⟨p2, ws, rfl, h3, h4⟩ := hy.lst_of
      exact ⟨p, p2, us, ws, rfl, rfl, ex_l e h1, ex_l e h3, sz_of (by rw [DqAll.length h2, DqAll.length h4]; exact hz), fun r hr => q _ _ _ (Gr.new e hr) (.lst (sq_of upd_same) (dpa_mono (Ex.new (fresh_back e hr)) (h2.append h4)))⟩
    · cases h
  · rename_i xs ys
    split at h
    · rename_i hz
      cases h
      exact fun a b H1 e hx hy Q q => .inr (.inr (.inl (rd_catZ hz a b H1 e hx hy Q q)))
    · cases h
  · rename_i xs ys
    split at h
    · rename_i hz
      cases h
      exact fun a b H1 e hx hy Q q => .inr (.inr (.inr ⟨xs, ys, hx.str_of, hy.str_of, sz_of hz, q _ B H1 (.refl e) (.str _)⟩))
    · cases h
  · cases h
theorem sl_add {ta tb : TE} {f g : Dn PyData} (ha : SE K ta f) (hb : SE K tb g) : SL K (tOp (rAddU K) ta tb) (dBind f fun x => dBind g fun y => dLift (addL x y)) := fun W hW σ e B H a d e' h Q q => by
  obtain ⟨x, e1, h1, h⟩ := dBind_some h
  obtain ⟨y, e2, h2, h⟩ := dBind_some h
  obtain ⟨h3, rfl⟩ := dLift_some h
  refine ha W hW σ e B H a x e1 h1 _ fun v1 B1 H1 a1 g1 d1 => hb W hW σ e1 B1 H1 a1 y e' h2 _ fun v2 B2 H2 a2 g2 d2 => ?_
  unfold addL at h3
  split at h3
  · rename_i xs ys
    split at h3
    · rename_i hz
      cases h3
      obtain ⟨p, us, rfl, k1, k2⟩ := d1.lst_of
      obtain ⟨p2, ws, rfl, k3, k4⟩ := d2.lst_of
      refine .inr (.inl ⟨p, p2, us, ws, rfl, rfl, ex_l (g2.go.hg.trans a2.ex) k1, ex_l a2.ex k3, sz_of (by rw [DqAll.length k2, DqAll.length k4]; exact hz), fun r hr => ?_⟩)
      have gr : Gr B2 H2 B2 (upd H2 r (.lst (us ++ ws))) := Gr.mut a2.ex hr
      exact q r _ _ _ (a2.gr gr) ((g1.trans g2).trans (gx_gr gr)) (g1.go.dm r (g2.go.dm r hr)) upd_same (fresh_back a2.ex hr) ((dpa_mono g2.go.hg k2).append k4)
    · cases h3
  · cases h3
end

/-! ### the other operators -/
def int2 (C : Int → Int → Prop) [∀ i j, Decidable (C i j)] (g : Int → Int → PyData) : PyData → PyData → Option PyData
  | .int i, .int j => if C i j then some (g i j) else none
  | _, _ => none
def subD := int2 (fun _ _ => True) fun i j => .int (i - j)
def modD := int2 (fun _ j => 0 < j) fun i j => .int (i % j)
instance (i j : Int) : Decidable (CDivW i j) := inferInstanceAs (Decidable (0 < j ∧ j.natAbs.log2 < 9000))
instance (i j : Int) : Decidable (CMulW i j) := inferInstanceAs (Decidable (i.natAbs.log2 + j.natAbs.log2 < 1000000))
instance (i j : Int) : Decidable (CMul i j) := inferInstanceAs (Decidable ((-(2 ^ 64) < i ∧ i < 2 ^ 64) ∨ (-(2 ^ 64) < j ∧ j < 2 ^ 64)))
instance (i j : Int) : Decidable (CPow i j) := inferInstanceAs (Decidable (0 ≤ j ∧ j ≤ 1000000 ∧ i.natAbs < 2 ^ 64))
def divD := int2 CDivW fun i j => .int (i / j)
def powD := int2 CPow fun i j => .int (i ^ j.toNat)
def andD := int2 (fun _ _ => True) fun i j => .int (Builtin.bitAnd i j)
def shlD := int2 CPow fun i j => .int (i * 2 ^ j.toNat)
def ltI := int2 (fun _ _ => True) fun i j => .bool (decide (i < j))
def rMulU (K : PySem.W.Frag) : R2 := fun x y H Q => rI CMul (fun i j => .int (i * j)) x y H Q ∨ rI CMulW (fun i j => .int (i * j)) x y H Q ∨ rRepA K x y H Q
theorem op_mulU {X : Cx} : OpR X (binaryOp .Mult) (rMulU X.K) := by
  intro pins s σ H x y v u Q I rx ry h
  rcases h with h | h | h
  · exact op_mul pins s σ H x y v u Q I rx ry h
  · exact op_mulW pins s σ H x y v u Q I rx ry h
  · exact op_repA pins s σ H x y v u Q I rx ry h
def mulD : PyData → PyData → Option PyData
  | .int i, .int j => if CMul i j ∨ CMulW i j then some (.int (i * j)) else none
  | .tuple xs, .int k => if xs ≠ [] ∧ 0 ≤ k ∧ k ≤ 1000 ∧ xs.length ≤ 1000 ∧ towerish (List.replicate k.toNat xs).flatten = false then some (.tuple (List.replicate k.toNat xs).flatten) else none
  | _, _ => none
section
variable {K : PySem.W.Frag} {B : Hp}
theorem rf_int0 {g : Int → Int → V} {gd : Int → Int → PyData} (hg : ∀ i j B, Dq K B (g i j) (gd i j)) (x y z : PyData) (h : int2 (fun _ _ => True) gd x y = some z) : RD K (rI0 g) x y B z := by
  unfold int2 at h
  split at h
  · rw [if_pos trivial] at h
    cases h
    exact fun a b H1 e hx hy Q q => ⟨_, _, hx.int_of, hy.int_of, q _ B H1 (.refl e) (hg _ _ _)⟩
  · cases h
theorem rf_intC {C : Int → Int → Prop} [∀ i j, Decidable (C i j)] {g : Int → Int → V} {gd : Int → Int → PyData} (hg : ∀ i j B, Dq K B (g i j) (gd i j)) (x y z : PyData) (h : int2 C gd x y = some z) : RD K (rI C g) x y B z := by
  unfold int2 at h
  split at h
  · split at h
    · rename_i hc
      cases h
      exact fun a b H1 e hx hy Q q => ⟨_, _, hx.int_of, hy.int_of, hc, q _ B H1 (.refl e) (hg _ _ _)⟩
    · cases h
  · cases h
theorem rf_mul (x y z : PyData) (h : mulD x y = some z) : RD K (rMulU K) x y B z := by
  unfold mulD at h
  split at h
  · split at h
    · rename_i hc
      cases h
      exact fun a b H1 e hx hy Q q => hc.elim (fun hc => .inl ⟨_, _, hx.int_of, hy.int_of, hc, q _ B H1 (.refl e) (.int _)⟩) fun hc => .inr (.inl ⟨_, _, hx.int_of, hy.int_of, hc, q _ B H1 (.refl e) (.int _)⟩)
    · cases h
  · split at h
    · rename_i hc
      cases h
      exact fun a b H1 e hx hy Q q => .inr (.inr (rd_repA hc.2.2.2.2 hc.1 hc.2.1 hc.2.2.1 hc.2.2.2.1 a b H1 e hx hy Q q))
    · cases h
  · cases h
end
/-! ### comparisons: ints and texts -/
def rLtU : R2 := fun x y H Q => rI0 (fun i j => .bl (decide (i < j))) x y H Q ∨ ∃ i j : Str, x = .str i ∧ y = .str j ∧ Q (.bl (decide (i.cps.toList < j.cps.toList))) H
def rGtU : R2 := fun x y H Q => rI0 (fun i j => .bl (decide (j < i))) x y H Q ∨ ∃ i j : Str, x = .str i ∧ y = .str j ∧ Q (.bl (decide (j.cps.toList < i.cps.toList))) H
def rLeU : R2 := fun x y H Q => rI0 (fun i j => .bl (decide (i ≤ j))) x y H Q ∨ ∃ i j : Str, x = .str i ∧ y = .str j ∧ Q (.bl (!decide (j.cps.toList < i.cps.toList))) H
def rGeU : R2 := fun x y H Q => rI0 (fun i j => .bl (decide (j ≤ i))) x y H Q ∨ ∃ i j : Str, x = .str i ∧ y = .str j ∧ Q (.bl (!decide (i.cps.toList < j.cps.toList))) H
section
variable {X : Cx}
theorem op_ltU : OpR X (compareOp .Lt) rLtU := fun pins s σ H x y v u Q I rx ry h => h.elim (op_lt pins s σ H x y v u Q I rx ry) (op_lt_str pins s σ H x y v u Q I rx ry)
theorem op_gtU : OpR X (compareOp .Gt) rGtU := fun pins s σ H x y v u Q I rx ry h => h.elim (op_gt pins s σ H x y v u Q I rx ry) (op_gt_str pins s σ H x y v u Q I rx ry)
theorem op_leU : OpR X (compareOp .LtE) rLeU := fun pins s σ H x y v u Q I rx ry h => h.elim (op_le pins s σ H x y v u Q I rx ry) (op_le_str pins s σ H x y v u Q I rx ry)
theorem op_geU : OpR X (compareOp .GtE) rGeU := fun pins s σ H x y v u Q I rx ry h => h.elim (op_ge pins s σ H x y v u Q I rx ry) (op_ge_str pins s σ H x y v u Q I rx ry)
end
def cmpD (p : Int → Int → Bool) (q : Str → Str → Bool) : PyData → PyData → Option PyData
  | .int i, .int j => some (.bool (p i j))
  | .str i, .str j => some (.bool (q i j))
  | _, _ => none
def ltD := cmpD (fun i j => decide (i < j)) fun i j => decide (i.cps.toList < j.cps.toList)
def gtD := cmpD (fun i j => decide (j < i)) fun i j => decide (j.cps.toList < i.cps.toList)
def leD := cmpD (fun i j => decide (i ≤ j)) fun i j => !decide (j.cps.toList < i.cps.toList)
def geD := cmpD (fun i j => decide (j ≤ i)) fun i j => !decide (i.cps.toList < j.cps.toList)
def eqD (x y : PyData) : Option PyData := if (SeqAt.shaped x && SeqAt.shaped y) = true then some (.bool (PyData.eqv x y)) else none
def neD (x y : PyData) : Option PyData := if (SeqAt.shaped x && SeqAt.shaped y) = true then some (.bool (!PyData.eqv x y)) else none
def isNonD' (x y : PyData) : Option PyData := match y with
  | .none => some (.bool (isNonD x))
  | _ => none
def notNonD (x y : PyData) : Option PyData := match y with
  | .none => some (.bool (!isNonD x))
  | _ => none
def isBlD (x y : PyData) : Option PyData := match x, y with
  | .bool a, .bool b => some (.bool (decide (a = b)))
  | _, _ => none
def notBlD (x y : PyData) : Option PyData := match x, y with
  | .bool a, .bool b => some (.bool (!decide (a = b)))
  | _, _ => none
/-- in a list -/
def inD (neg : Bool) (x y : PyData) : Option PyData := match y with
  | .list ds => if (SeqAt.shaped x && SeqAt.shaped (.list ds)) = true then some (.bool (if neg then !(ds.any fun z => PyData.eqv z x) else ds.any fun z => PyData.eqv z x)) else none
  | _ => none
def ixD (x y : PyData) : Option PyData := match y with
  | .int i => match x with
    | .list xs => atI xs i
    | .tuple xs => atI xs i
    | .str w => if w.length ≤ 100000 then (atI w.cps.toList i).map fun c => .str ⟨#[c]⟩ else none
    | _ => none
  | _ => none
section
variable {K : PySem.W.Frag} {B : Hp}
theorem rf_cmp {r : R2} {p : Int → Int → Bool} {qs : Str → Str → Bool} (h1 : ∀ i j H Q, Q (.bl (p i j)) H → r (.int i) (.int j) H Q) (h2 : ∀ i j H Q, Q (.bl (qs i j)) H → r (.str i) (.str j) H Q) (x y z : PyData) (h : cmpD p qs x y = some z) : RD K r x y B z := by
  unfold cmpD at h
  split at h
  · cases h
    intro a b H1 e hx hy Q q
    rw [hx.int_of, hy.int_of]
    exact h1 _ _ H1 Q (q _ B H1 (.refl e) (.bl _))
  · cases h
    intro a b H1 e hx hy Q q
    rw [hx.str_of, hy.str_of]
    exact h2 _ _ H1 Q (q _ B H1 (.refl e) (.bl _))
  · cases h
theorem rf_lt (x y z : PyData) (h : ltD x y = some z) : RD K rLtU x y B z := rf_cmp (fun i j H Q q => .inl ⟨i, j, rfl, rfl, q⟩) (fun i j H Q q => .inr ⟨i, j, rfl, rfl, q⟩) x y z h
theorem rf_gt (x y z : PyData) (h : gtD x y = some z) : RD K rGtU x y B z := rf_cmp (fun i j H Q q => .inl ⟨i, j, rfl, rfl, q⟩) (fun i j H Q q => .inr ⟨i, j, rfl, rfl, q⟩) x y z h
theorem rf_le (x y z : PyData) (h : leD x y = some z) : RD K rLeU x y B z := rf_cmp (fun i j H Q q => .inl ⟨i, j, rfl, rfl, q⟩) (fun i j H Q q => .inr ⟨i, j, rfl, rfl, q⟩) x y z h
theorem rf_ge (x y z : PyData) (h : geD x y = some z) : RD K rGeU x y B z := rf_cmp (fun i j H Q q => .inl ⟨i, j, rfl, rfl, q⟩) (fun i j H Q q => .inr ⟨i, j, rfl, rfl, q⟩) x y z h
theorem rf_eq (x y z : PyData) (h : eqD x y = some z) : RD K (rEqD K) x y B z := by
  unfold eqD at h
  split at h
  · rename_i hc
    rw [Bool.and_eq_true] at hc
    cases h
    exact rd_eqD hc.1 hc.2
  · cases h
theorem rf_ne (x y z : PyData) (h : neD x y = some z) : RD K (rNeD K) x y B z := by
  unfold neD at h
  split at h
  · rename_i hc
    rw [Bool.and_eq_true] at hc
    cases h
    exact rd_neD hc.1 hc.2
  · cases h
theorem rf_isN (x y z : PyData) (h : isNonD' x y = some z) : RD K (fun x y H Q => y = .non ∧ Q (.bl (decide (x = .non))) H) x y B z := by
  unfold isNonD' at h
  split at h
  · cases h
    exact rd_isN
  · cases h
theorem rf_notN (x y z : PyData) (h : notNonD x y = some z) : RD K (fun x y H Q => y = .non ∧ Q (.bl (!decide (x = .non))) H) x y B z := by
  unfold notNonD at h
  split at h
  · cases h
    exact rd_notN
  · cases h
theorem rf_isBl (x y z : PyData) (h : isBlD x y = some z) : RD K rIsB x y B z := by
  unfold isBlD at h
  split at h
  · cases h
    exact rd_isBl
  · cases h
theorem rf_notBl (x y z : PyData) (h : notBlD x y = some z) : RD K rNotB x y B z := by
  unfold notBlD at h
  split at h
  · cases h
    exact rd_notBl
  · cases h
theorem rf_in (x y z : PyData) (h : inD false x y = some z) : RD K (rInD K) x y B z := by
  unfold inD at h
  split at h
  · rename_i ds
    split at h
    · rename_i hc
      rw [Bool.and_eq_true] at hc
      cases h
      exact fun a b H1 e hx hy Q q => ⟨x, ds, (dp_mono e hx).toP (SeqAt.canLay_of_shaped hc.1), (dp_mono e hy).toP (SeqAt.canLay_of_shaped hc.2), hc.1, hc.2, q _ B H1 (.refl e) (.bl _)⟩
    · cases h
  · cases h
theorem rf_notIn (x y z : PyData) (h : inD true x y = some z) : RD K (rNotInD K) x y B z := by
  unfold inD at h
  split at h
  · rename_i ds
    split at h
    · rename_i hc
      rw [Bool.and_eq_true] at hc
      cases h
      exact fun a b H1 e hx hy Q q => ⟨x, ds, (dp_mono e hx).toP (SeqAt.canLay_of_shaped hc.1), (dp_mono e hy).toP (SeqAt.canLay_of_shaped hc.2), hc.1, hc.2, q _ B H1 (.refl e) (.bl _)⟩
    · cases h
  · cases h
theorem rf_ix (x y z : PyData) (h : ixD x y = some z) : RD K (rIx K) x y B z := by
  unfold ixD at h
  split at h
  · rename_i i
    split at h
    · intro a b H1 e hx hy Q q
      rcases rd_ix (K := K) (b := true) h a b H1 e hx hy Q q with k | k
      · exact .inl k
      · exact .inr (.inl k)
    · intro a b H1 e hx hy Q q
      rcases rd_ix (K := K) (b := false) h a b H1 e hx hy Q q with k | k
      · exact .inl k
      · exact .inr (.inl k)
    · split at h
      · rename_i w hw
        obtain ⟨c, hc, rfl⟩ := Option.map_eq_some_iff.mp h
        exact fun a b H1 e hx hy Q q => .inr (.inr ⟨w, i, c, hx.str_of, hy.int_of, sz_of hw, hc, q _ B H1 (.refl e) (.str _)⟩)
      · cases h
    · cases h
  · cases h
theorem rf_neg {x z : PyData} (h : (match x with | .int i => some (PyData.int (-i)) | _ => none) = some z) : RUD K (rU fun i => .int (-i)) x B z := by
  split at h
  · cases h
    exact rud_neg
  · cases h
end
def negD : PyData → Option PyData
  | .int i => some (.int (-i))
  | _ => none
section
variable {K : PySem.W.Frag} {ta tb te tc : TE} {f g k : Dn PyData}
theorem se_add (ha : SE K ta f) (hb : SE K tb g) : SE K (tOp (rAddU K) ta tb) (dOp addD f g) := se_op (fun B => rf_add) ha hb
theorem se_mul (ha : SE K ta f) (hb : SE K tb g) : SE K (tOp (rMulU K) ta tb) (dOp mulD f g) := se_op (fun B => rf_mul) ha hb
theorem se_sub (ha : SE K ta f) (hb : SE K tb g) : SE K (tOp (rI0 fun i j => .int (i - j)) ta tb) (dOp subD f g) := se_op (fun B => rf_int0 fun _ _ _ => .int _) ha hb
theorem se_bitand (ha : SE K ta f) (hb : SE K tb g) : SE K (tOp (rI0 fun i j => .int (Builtin.bitAnd i j)) ta tb) (dOp andD f g) := se_op (fun B => rf_int0 fun _ _ _ => .int _) ha hb
theorem se_mod (ha : SE K ta f) (hb : SE K tb g) : SE K (tOp (rI (fun _ j => 0 < j) fun i j => .int (i % j)) ta tb) (dOp modD f g) := se_op (fun B => rf_intC fun _ _ _ => .int _) ha hb
theorem se_div (ha : SE K ta f) (hb : SE K tb g) : SE K (tOp (rI CDivW fun i j => .int (i / j)) ta tb) (dOp divD f g) := se_op (fun B => rf_intC fun _ _ _ => .int _) ha hb
theorem se_pow (ha : SE K ta f) (hb : SE K tb g) : SE K (tOp (rI CPow fun i j => .int (i ^ j.toNat)) ta tb) (dOp powD f g) := se_op (fun B => rf_intC fun _ _ _ => .int _) ha hb
theorem se_shl (ha : SE K ta f) (hb : SE K tb g) : SE K (tOp (rI CPow fun i j => .int (i * 2 ^ j.toNat)) ta tb) (dOp shlD f g) := se_op (fun B => rf_intC fun _ _ _ => .int _) ha hb
theorem se_lt (ha : SE K ta f) (hb : SE K tb g) : SE K (tOp rLtU ta tb) (dOp ltD f g) := se_op (fun B => rf_lt) ha hb
theorem se_gt (ha : SE K ta f) (hb : SE K tb g) : SE K (tOp rGtU ta tb) (dOp gtD f g) := se_op (fun B => rf_gt) ha hb
theorem se_le (ha : SE K ta f) (hb : SE K tb g) : SE K (tOp rLeU ta tb) (dOp leD f g) := se_op (fun B => rf_le) ha hb
theorem se_ge (ha : SE K ta f) (hb : SE K tb g) : SE K (tOp rGeU ta tb) (dOp geD f g) := se_op (fun B => rf_ge) ha hb
theorem se_eq (ha : SE K ta f) (hb : SE K tb g) : SE K (tOp (rEqD K) ta tb) (dOp eqD f g) := se_op (fun B => rf_eq) ha hb
theorem se_ne (ha : SE K ta f) (hb : SE K tb g) : SE K (tOp (rNeD K) ta tb) (dOp neD f g) := se_op (fun B => rf_ne) ha hb
theorem se_isN (ha : SE K ta f) (hb : SE K tb g) : SE K (tOp (fun x y H Q => y = .non ∧ Q (.bl (decide (x = .non))) H) ta tb) (dOp isNonD' f g) := se_op (fun B => rf_isN) ha hb
theorem se_notN (ha : SE K ta f) (hb : SE K tb g) : SE K (tOp (fun x y H Q => y = .non ∧ Q (.bl (!decide (x = .non))) H) ta tb) (dOp notNonD f g) := se_op (fun B => rf_notN) ha hb
theorem se_isBl (ha : SE K ta f) (hb : SE K tb g) : SE K (tOp rIsB ta tb) (dOp isBlD f g) := se_op (fun B => rf_isBl) ha hb
theorem se_notBl (ha : SE K ta f) (hb : SE K tb g) : SE K (tOp rNotB ta tb) (dOp notBlD f g) := se_op (fun B => rf_notBl) ha hb
theorem se_in (ha : SE K ta f) (hb : SE K tb g) : SE K (tOp (rInD K) ta tb) (dOp (inD false) f g) := se_op (fun B => rf_in) ha hb
theorem se_notIn (ha : SE K ta f) (hb : SE K tb g) : SE K (tOp (rNotInD K) ta tb) (dOp (inD true) f g) := se_op (fun B => rf_notIn) ha hb
theorem se_ix (ha : SE K ta f) (hb : SE K tb g) : SE K (tOp (rIx K) ta tb) (dOp ixD f g) := se_op (fun B => rf_ix) ha hb
theorem se_neg (ha : SE K ta f) : SE K (tUn (rU fun i => .int (-i)) ta) (dUn negD f) := se_un (fun B x z h => by
  unfold negD at h
  split at h
  · cases h
    exact rud_neg
  · cases h) ha
/-- a chain of two comparisons -/
def dChain (F G : PyData → PyData → Option PyData) (f g k : Dn PyData) : Dn PyData := dBind f fun x => dBind g fun y => dBind (dLift (F x y)) fun z => match z with
  | .bool true => dBind k fun w => dLift (G y w)
  | .bool false => dK (.bool false)
  | _ => fun _ => none
end
end Fd
end

section
set_option Elab.async false
set_option linter.all false
set_option maxRecDepth 100000
set_option maxHeartbeats 1000000
/-! Walks by meaning 7: chains, slices, built-ins, lists of one's own. -/
variable [Fd.Uw]
namespace Fd
open PySem PySem.Spec PyProof.Rows L2 Evl Tb

section
variable {K : PySem.W.Frag} {ta tb te tc : TE} {f g k : Dn PyData} {B : Hp}
theorem se_chain {r r' : R2} {F G : PyData → PyData → Option PyData} (hr : ∀ B x y z, F x y = some z → RD K r x y B z) (hr' : ∀ B x y z, G x y = some z → RD K r' x y B z) (ha : SE K ta f) (hb : SE K tb g) (hc : SE K tc k) :
    SE K (tChain r r' ta tb tc) (dChain F G f g k) := fun W hW σ e B H a d e' h Q q => by
  obtain ⟨x, e1, h1, k1⟩ := dBind_some h
  obtain ⟨y, e2, h2, k2⟩ := dBind_some k1
  obtain ⟨z, e3, h3', k3⟩ := dBind_some k2
  obtain ⟨h3, rfl⟩ := dLift_some h3'
  clear h k1 k2
  refine ha W hW σ e B H a x e1 h1 _ fun v1 B1 H1 a1 g1 d1 => hb W hW σ e1 B1 H1 a1 y e3 h2 _ fun v2 B2 H2 a2 g2 d2 => ?_
  refine hr B2 x y z h3 v1 v2 H2 a2.ex (dp_mono g2.go.hg d1) d2 _ fun v G H3 g3 hd => ?_
  have a3 := a2.gr g3
  have g123 := (g1.trans g2).trans (gx_gr (σ := σ) (e := e3) g3)
  split at k3
  · obtain ⟨w, e4, h4, k4⟩ := dBind_some k3
    obtain ⟨h5, rfl⟩ := dLift_some k4
    refine ⟨true, hd.bl_of, ?_⟩
    rw [if_pos rfl]
    refine hc W hW σ e3 G H3 a3 w e' h4 _ fun v4 B4 H4 a4 g4 d4 => ?_
    exact hr' B4 y w d h5 v2 v4 H4 a4.ex (dp_mono (g3.hg.trans g4.go.hg) d2) d4 Q fun v5 B5 H5 g5 d5 => q v5 B5 H5 (a4.gr g5) ((g123.trans g4).trans (gx_gr g5)) d5
  · obtain ⟨rfl, rfl⟩ := dK_some k3
    refine ⟨false, hd.bl_of, ?_⟩
    rw [if_neg Bool.false_ne_true]
    exact q _ G H3 a3 g123 (.bl false)
  · cases k3
theorem se_ltle (ha : SE K ta f) (hb : SE K tb g) (hc : SE K tc k) : SE K (tChain rLtU rLeU ta tb tc) (dChain ltD leD f g k) := se_chain (fun B => rf_lt) (fun B => rf_le) ha hb hc
theorem se_lele (ha : SE K ta f) (hb : SE K tb g) (hc : SE K tc k) : SE K (tChain rLeU rLeU ta tb tc) (dChain leD leD f g k) := se_chain (fun B => rf_le) (fun B => rf_le) ha hb hc
theorem se_ltlt (ha : SE K ta f) (hb : SE K tb g) (hc : SE K tc k) : SE K (tChain rLtU rLtU ta tb tc) (dChain ltD ltD f g k) := se_chain (fun B => rf_lt) (fun B => rf_lt) ha hb hc
theorem se_lelt (ha : SE K ta f) (hb : SE K tb g) (hc : SE K tc k) : SE K (tChain rLeU rLtU ta tb tc) (dChain leD ltD f g k) := se_chain (fun B => rf_le) (fun B => rf_lt) ha hb hc
theorem se_eqeq (ha : SE K ta f) (hb : SE K tb g) (hc : SE K tc k) : SE K (tChain (rEqD K) (rEqD K) ta tb tc) (dChain eqD eqD f g k) := se_chain (fun B => rf_eq) (fun B => rf_eq) ha hb hc

/-! ### slices -/
def SO (K : PySem.W.Frag) (to : TO) (f : Dn (Option Int)) : Prop := ∀ (W : Wo), W.K = K → ∀ (σ : L2.St) (e : En) (B H : Hp), At W σ e B H → ∀ o e', f e = some (o, e') →
  ∀ Q : Option Int → Hp → Prop, (∀ B' H', At W σ e' B' H' → Gx σ e B H e' B' H' → Q o H') → to σ H Q
def dPart (f : Dn PyData) : Dn (Option Int) := dBind f fun x => match x with
  | .int i => dK (some i)
  | _ => fun _ => none
theorem so_none : SO K tNoPart (dK none) := fun W hW σ e B H a o e' h Q q => by
  obtain ⟨rfl, rfl⟩ := dK_some h
  exact q B H a (.refl _ _ _ _)
theorem so_some (h : SE K te f) : SO K (tPart te) (dPart f) := fun W hW σ e B H a o e' h' Q q => by
  obtain ⟨x, e1, h1, h2⟩ := dBind_some h'
  split at h2
  · rename_i i
    obtain ⟨rfl, rfl⟩ := dK_some h2
    exact h W hW σ e B H a _ e' h1 _ fun v B1 H1 a1 g1 d1 => ⟨i, d1.int_of, q B1 H1 a1 g1⟩
  · cases h2
def cutL {α : Type} (xs : List α) (lo hi : Option Int) : List α := (xs.drop (HT.sIx xs.length 0 lo)).take (HT.sIx xs.length xs.length hi - HT.sIx xs.length 0 lo)
def rSlU (K : PySem.W.Frag) : V → Option Int → Option Int → Hp → VK → Prop := fun x lo hi H Q => rSlL K x lo hi H Q ∨ rSlZ K x lo hi H Q
theorem sl_sliceU {X : Cx} : SlR X (rSlU X.K) := sl_list.or sl_tupZ
def slD (x : PyData) (lo hi : Option Int) : Option PyData := match x with
  | .list xs => some (.list (cutL xs lo hi))
  | .tuple xs => some (.tuple (cutL xs lo hi))
  | _ => none
def slL (x : PyData) (lo hi : Option Int) : Option (List PyData) := match x with
  | .list xs => some (cutL xs lo hi)
  | _ => none
theorem cut_all {H : Hp} {xs : List V} {ds : List PyData} (h : DqAll K H xs ds) (lo hi : Option Int) : DqAll K H (cutV xs lo hi) (cutL ds lo hi) := by
  unfold cutV cutL
  rw [DqAll.length h]
  exact (h.drop _).take _
theorem cutL_whole {α : Type} {xs : List α} {lo hi : Option Int} (h : HT.sIx xs.length 0 lo = 0 ∧ HT.sIx xs.length xs.length hi = xs.length) : cutL xs lo hi = xs := by
  unfold cutL
  rw [h.1, h.2, List.drop_zero, Nat.sub_zero, List.take_length]
def dSl (f : Dn PyData) (l u : Dn (Option Int)) : Dn PyData := dBind f fun x => dBind l fun lo => dBind u fun hi => dLift (slD x lo hi)
def dSlL (f : Dn PyData) (l u : Dn (Option Int)) : Dn (List PyData) := dBind f fun x => dBind l fun lo => dBind u fun hi => dLift (slL x lo hi)
theorem se_sl {tl th : TO} {l u : Dn (Option Int)} (h : SE K te f) (hl : SO K tl l) (hu : SO K th u) : SE K (tSl (rSlU K) te tl th) (dSl f l u) := fun W hW σ e B H a d e' h' Q q => by
  obtain ⟨x, e1, h1, h2⟩ := dBind_some h'
  obtain ⟨lo, e2, h3, h4⟩ := dBind_some h2
  obtain ⟨hi, e3, h5, h6⟩ := dBind_some h4
  obtain ⟨h7, rfl⟩ := dLift_some h6
  refine h W hW σ e B H a x e1 h1 _ fun v1 B1 H1 a1 g1 d1 => hl W hW σ e1 B1 H1 a1 lo e2 h3 _ fun B2 H2 a2 g2 => hu W hW σ e2 B2 H2 a2 hi e' h5 _ fun B3 H3 a3 g3 => ?_
  have d3 := dp_mono (g2.go.hg.trans g3.go.hg) d1
  have g123 := (g1.trans g2).trans g3
  unfold slD at h7
  split at h7
  · rename_i xs
    cases h7
    obtain ⟨p, us, rfl, k1, k2⟩ := d3.lst_of
    refine .inl ⟨p, us, rfl, ex_l a3.ex k1, fun r hr => ?_⟩
    have gr : Gr B3 H3 (upd B3 r (.lst (cutV us lo hi))) _ := Gr.new a3.ex hr
    exact q _ _ _ (a3.gr gr) (g123.trans (gx_gr gr)) (.lst (sq_of upd_same) (dpa_mono gr.hg (cut_all k2 lo hi)))
  · rename_i xs
    cases h7
    obtain ⟨p, us, rfl, k1, k2⟩ := d3.tup_of
    refine .inr ⟨p, us, rfl, ex_t a3.ex k1, fun hw => ?_, fun _ r o hr hoc hod => ?_⟩
    · rw [DqAll.length k2] at hw
      rw [cutL_whole hw] at q
      exact q _ _ _ a3 g123 d3
    · have gr : Gr B3 H3 (upd B3 r (.frz o (.tup (cutV us lo hi)))) _ := Gr.new a3.ex hr
      exact q _ _ _ (a3.gr gr) (g123.trans (gx_gr gr)) (.tupZ hoc hod upd_same (dpa_mono gr.hg (cut_all k2 lo hi)))
  · cases h7
theorem sl_sl {tl th : TO} {l u : Dn (Option Int)} (h : SE K te f) (hl : SO K tl l) (hu : SO K th u) : SL K (tSl (rSlU K) te tl th) (dSlL f l u) := fun W hW σ e B H a d e' h' Q q => by
  obtain ⟨x, e1, h1, h2⟩ := dBind_some h'
  obtain ⟨lo, e2, h3, h4⟩ := dBind_some h2
  obtain ⟨hi, e3, h5, h6⟩ := dBind_some h4
  obtain ⟨h7, rfl⟩ := dLift_some h6
  refine h W hW σ e B H a x e1 h1 _ fun v1 B1 H1 a1 g1 d1 => hl W hW σ e1 B1 H1 a1 lo e2 h3 _ fun B2 H2 a2 g2 => hu W hW σ e2 B2 H2 a2 hi e' h5 _ fun B3 H3 a3 g3 => ?_
  have d3 := dp_mono (g2.go.hg.trans g3.go.hg) d1
  have g123 := (g1.trans g2).trans g3
  unfold slL at h7
  split at h7
  · rename_i xs
    cases h7
    obtain ⟨p, us, rfl, k1, k2⟩ := d3.lst_of
    refine .inl ⟨p, us, rfl, ex_l a3.ex k1, fun r hr => ?_⟩
    have gr : Gr B3 H3 B3 (upd H3 r (.lst (cutV us lo hi))) := Gr.mut a3.ex hr
    exact q _ _ _ _ (a3.gr gr) (g123.trans (gx_gr gr)) (g123.go.dm r hr) upd_same (fresh_back a3.ex hr) (cut_all k2 lo hi)
  · cases h7

/-! ### built-ins -/
def rLenU (K : PySem.W.Frag) : List V → Hp → VK → Prop := fun xs H Q => (∃ p ys, xs = [V.ref p] ∧ (SqL K H p ys ∨ SqT K H p ys) ∧ Q (.int ys.length) H) ∨ ∃ z : Str, xs = [.str z] ∧ z.length ≤ sizeLine ∧ Q (.int z.length) H
theorem call_lenU {X : Cx} : CallR X (.builtin "len") (rLenU X.K) := fun pins s σ H xs us Q I r h => h.elim (call_len_seq pins s σ H xs us Q I r) (call_len_str pins s σ H xs us Q I r)
def rIntU : List V → Hp → VK → Prop := fun xs H Q => (∃ i, xs = [V.int i] ∧ Q (.int i) H) ∨ ∃ k, xs = [V.bl k] ∧ Q (.int (if k then 1 else 0)) H
theorem call_intU {X : Cx} : CallR X (.type "int") rIntU := call_int1
def rTupU (K : PySem.W.Frag) : List V → Hp → VK → Prop := fun xs H Q => ∃ p ys, xs = [V.ref p] ∧ ((SqL K H p ys ∧ ∀ l o, H l = none → o.cls = .type "tuple" → o.dict = none → Q (.ref l) (upd H l (.frz o (.tup ys)))) ∨ (SqT K H p ys ∧ Q (.ref p) H))
theorem call_tupU {X : Cx} : CallR X (.type "tuple") (rTupU X.K) := fun pins s σ H xs us Q I r h => by
  obtain ⟨p, ys, e, h | h⟩ := h
  · exact Tb.call_tuple_fz pins s σ H xs us Q I r ⟨p, ys, e, h.1, h.2⟩
  · exact call_tuple_of pins s σ H xs us Q I r ⟨p, ys, e, .inr h⟩
def rLstU (K : PySem.W.Frag) : List V → Hp → VK → Prop := fun xs H Q => ∃ p ys, xs = [V.ref p] ∧ (SqL K H p ys ∨ SqT K H p ys) ∧ ∀ l, H l = none → Q (.ref l) (upd H l (.lst ys))
theorem call_lstU {X : Cx} {K : PySem.W.Frag} (h : X.K = K) : CallR X (.type "list") (rLstU K) := by
  subst h
  exact call_list_of
def rMin2 : List V → Hp → VK → Prop := fun xs H Q => ∃ i j, xs = [V.int i, .int j] ∧ Q (.int (if j < i then j else i)) H
def rMax2 : List V → Hp → VK → Prop := fun xs H Q => ∃ i j, xs = [V.int i, .int j] ∧ Q (.int (if j > i then j else i)) H
theorem call_min2U {X : Cx} (hc : X.calm = true) : CallR X (.builtin "min") rMin2 := call_min2 hc
theorem call_max2U {X : Cx} (hc : X.calm = true) : CallR X (.builtin "max") rMax2 := call_max2 hc
/-- all of them ints -/
def intsOf : List PyData → Option (List Int)
  | [] => some []
  | .int i :: ds => (intsOf ds).map (i :: ·)
  | _ => none
theorem intsOf_some : ∀ {ds : List PyData} {ns : List Int}, intsOf ds = some ns → ds = ns.map .int
  | [], ns, h => by
    cases h
    rfl
  | .int i :: ds, ns, h => by
    obtain ⟨ms, h1, rfl⟩ := Option.map_eq_some_iff.mp h
    rw [intsOf_some h1]
    rfl
  | .none :: _, _, h => by cases h
  | .bool _ :: _, _, h => by cases h
  | .str _ :: _, _, h => by cases h
  | .list _ :: _, _, h => by cases h
  | .tuple _ :: _, _, h => by cases h
  | .dict _ :: _, _, h => by cases h
theorem intsOf_map : ∀ ns : List Int, intsOf (ns.map .int) = some ns
  | [] => rfl
  | n :: ns => by
    show (intsOf (ns.map .int)).map (n :: ·) = _
    rw [intsOf_map ns]
    rfl
def blsOf : List PyData → Option (List Bool)
  | [] => some []
  | .bool i :: ds => (blsOf ds).map (i :: ·)
  | _ => none
theorem blsOf_some : ∀ {ds : List PyData} {ns : List Bool}, blsOf ds = some ns → ds = ns.map .bool
  | [], ns, h => by
    cases h
    rfl
  | .bool i :: ds, ns, h => by
    obtain ⟨ms, h1, rfl⟩ := Option.map_eq_some_iff.mp h
    rw [blsOf_some h1]
    rfl
  | .none :: _, _, h => by cases h
  | .int _ :: _, _, h => by cases h
  | .str _ :: _, _, h => by cases h
  | .list _ :: _, _, h => by cases h
  | .tuple _ :: _, _, h => by cases h
  | .dict _ :: _, _, h => by cases h
theorem dpa_bls {H : Hp} : ∀ {vs : List V} {ns : List Bool}, DqAll K H vs (ns.map .bool) → vs = ns.map V.bl
  | _, [], .nil => rfl
  | _, n :: ns, .cons r a => by
    rw [Dq.bl_of r, dpa_bls a]
    rfl
def rAbs : List V → Hp → VK → Prop := fun xs H Q => ∃ i, xs = [V.int i] ∧ Q (.int (if i < 0 then -i else i)) H
theorem call_absU {X : Cx} : CallR X (.builtin "abs") rAbs := call_abs
def rRepr : List V → Hp → VK → Prop := fun xs H Q => (∃ i, xs = [V.int i] ∧ i.natAbs.log2 < 1920 ∧ Q (.str (toString i)) H) ∨ ∃ b, xs = [V.bl b] ∧ Q (.str (if b then "True" else "False")) H
theorem call_reprU {X : Cx} : CallR X (.builtin "repr") rRepr := by
  intro pins s σ H xs us Q I r h
  rcases h with ⟨i, rfl, hz, q⟩ | ⟨b, rfl, q⟩
  · obtain ⟨u, rfl, t, rfl⟩ := vals1 r
    exact PySem.P.repr_of_int hz ⟨.str _, H, I.tok _, ⟨_, rfl⟩, q⟩
  · obtain ⟨u, rfl, ru⟩ := vals1 r
    cases ru
    exact PySem.P.repr_of_bool ⟨.str _, H, I.tok _, ⟨_, rfl⟩, q⟩
def lenD : List PyData → Option PyData
  | [.list xs] => some (.int xs.length)
  | [.tuple xs] => some (.int xs.length)
  | [.str z] => if z.length ≤ 100000 then some (.int z.length) else none
  | _ => none
def intD : List PyData → Option PyData
  | [.int i] => some (.int i)
  | [.bool b] => some (.int (if b then 1 else 0))
  | _ => none
def tupD : List PyData → Option PyData
  | [.list xs] => some (.tuple xs)
  | [.tuple xs] => some (.tuple xs)
  | _ => none
def lstD : List PyData → Option (List PyData)
  | [.list xs] => some xs
  | [.tuple xs] => some xs
  | _ => none
def min2D : List PyData → Option PyData
  | [.int i, .int j] => some (.int (min i j))
  | _ => none
def max2D : List PyData → Option PyData
  | [.int i, .int j] => some (.int (max i j))
  | _ => none
def absD : List PyData → Option PyData
  | [.int i] => some (.int i.natAbs)
  | _ => none
def sumD : List PyData → Option PyData
  | [.list xs] => (intsOf xs).map fun ns => .int ns.sum
  | _ => none
def maxD : List PyData → Option PyData
  | [.list xs] => match intsOf xs with
    | some (n :: ns) => some (.int (ns.foldl max n))
    | _ => none
  | _ => none
def minD : List PyData → Option PyData
  | [.list xs] => match intsOf xs with
    | some (n :: ns) => some (.int (ns.foldl min n))
    | _ => none
  | _ => none
def allD : List PyData → Option PyData
  | [.list xs] => (blsOf xs).map fun bs => .bool (bs.all id)
  | _ => none
def anyD : List PyData → Option PyData
  | [.list xs] => (blsOf xs).map fun bs => .bool (bs.any id)
  | _ => none
def reprD : List PyData → Option PyData
  | [.bool b] => some (.str (if b then "True" else "False"))
  | [.int i] => if i.natAbs.log2 < 1920 then some (.str (toString i)) else none
  | _ => none
def sortI (ns : List Int) : List Int := ns.mergeSort fun i j => decide (i ≤ j)
theorem sortI_of {ns ms : List Int} (h : ms.Perm ns) (hp : ms.Pairwise (· ≤ ·)) : ms = sortI ns := by
  unfold sortI
  have h1 : (ns.mergeSort fun i j => decide (i ≤ j)).Pairwise (· ≤ ·) := by
    have z := List.pairwise_mergeSort (le := fun i j : Int => decide (i ≤ j)) (fun a b c h1 h2 => decide_eq_true (Int.le_trans (of_decide_eq_true h1) (of_decide_eq_true h2))) (fun a b => by
      rw [Bool.or_eq_true, decide_eq_true_iff, decide_eq_true_iff]
      exact Int.le_total a b) ns
    exact z.imp fun h => of_decide_eq_true h
  exact List.Perm.eq_of_pairwise (fun a b _ _ h1 h2 => Int.le_antisymm h1 h2) hp h1 (h.trans (List.mergeSort_perm ns _).symm)
def sortedD : List PyData → Option (List PyData)
  | [.list xs] => (intsOf xs).map fun ns => (sortI ns).map .int
  | _ => none
def maxDfD : List PyData → List PyData → Option PyData
  | [.tuple xs], [.int d] => (intsOf xs).map fun ns => .int (maxOf d ns)
  | [.list xs], [.int d] => (intsOf xs).map fun ns => .int (maxOf d ns)
  | _, _ => none
/-- max of a list or a tuple, with a default -/
def rMaxDfU (K : PySem.W.Frag) : List V → List V → Hp → VK → Prop := fun vs zs H Q => ∃ a ns d0, vs = [.ref a] ∧ zs = [.int d0] ∧ (SqT K H a (ns.map V.int) ∨ SqL K H a (ns.map V.int)) ∧ Q (.int (maxOf d0 ns)) H
theorem cr_maxDfU {X : Cx} (hc : X.calm = true) (hu : X.A.units + 64 < cLine) : CallRK X (.builtin "max") [Str.ofString "default"] (rMaxDfU X.K) := by
  intro pns st σ H vs zs us ws Q I r r2 h
  obtain ⟨a, ns, d0, rfl, rfl, hs | hs, q⟩ := h
  · exact cr_maxDf hc hu pns st σ H _ _ us ws Q I r r2 ⟨a, ns, d0, rfl, rfl, hs, q⟩
  · obtain ⟨its, rv, ht, _⟩ := I.list hs
    obtain ⟨as, hr⟩ := Dp.readsAll I (ns.map .int) _ its (DpAll.of_ints ns) rv
    rw [Vals.ref1 r]
    cases r2 with
    | cons z zz =>
      cases zz
      obtain ⟨tk0, rfl⟩ := z
      have hd := depth_ints ns
      refine PySem.W.max_list_default (I.ok.hd hc) ht.isList (by simpa using hr) (alike_ints ns) (by omega) (fun h0 h' tk hk => ?_) fun y ys i v h' tk bs hy hv hr' hk => ?_
      · cases ns with
        | nil => exact ⟨.int d0, H, I.kept hk, ⟨_, rfl⟩, q⟩
        | cons n ns => cases h0
      · cases ns with
        | nil => cases hy
        | cons n ns =>
          rw [List.map_cons] at hy
          injection hy with e1 e2
          subst e1 e2
          rw [PySem.W.maxD_ints] at hr'
          cases hr' with
          | int _ t => exact ⟨.int _, H, I.kept hk, ⟨_, rfl⟩, q⟩
theorem fold_max_mem : ∀ (ns : List Int) (n : Int), (ns.foldl max n = n ∨ ns.foldl max n ∈ ns) ∧ n ≤ ns.foldl max n ∧ ∀ y ∈ ns, y ≤ ns.foldl max n
  | [], n => ⟨.inl rfl, Int.le_refl _, fun y h => by cases h⟩
  | m :: ns, n => by
    obtain ⟨h1, h2, h3⟩ := fold_max_mem ns (max n m)
    show (ns.foldl max (max n m) = n ∨ ns.foldl max (max n m) ∈ m :: ns) ∧ n ≤ ns.foldl max (max n m) ∧ ∀ y ∈ m :: ns, y ≤ ns.foldl max (max n m)
    refine ⟨?_, by omega, fun y hy => ?_⟩
    · rcases h1 with h1 | h1
      · rw [h1]
        by_cases c : n ≤ m
        · exact .inr (by rw [show max n m = m by omega]; exact List.mem_cons_self ..)
        · exact .inl (by omega)
      · exact .inr (List.mem_cons_of_mem _ h1)
    · rcases List.mem_cons.mp hy with rfl | hy
      · omega
      · exact h3 y hy
theorem fold_min_mem : ∀ (ns : List Int) (n : Int), (ns.foldl min n = n ∨ ns.foldl min n ∈ ns) ∧ ns.foldl min n ≤ n ∧ ∀ y ∈ ns, ns.foldl min n ≤ y
  | [], n => ⟨.inl rfl, Int.le_refl _, fun y h => by cases h⟩
  | m :: ns, n => by
    obtain ⟨h1, h2, h3⟩ := fold_min_mem ns (min n m)
    show (ns.foldl min (min n m) = n ∨ ns.foldl min (min n m) ∈ m :: ns) ∧ ns.foldl min (min n m) ≤ n ∧ ∀ y ∈ m :: ns, ns.foldl min (min n m) ≤ y
    refine ⟨?_, by omega, fun y hy => ?_⟩
    · rcases h1 with h1 | h1
      · rw [h1]
        by_cases c : m ≤ n
        · exact .inr (by rw [show min n m = m by omega]; exact List.mem_cons_self ..)
        · exact .inl (by omega)
      · exact .inr (List.mem_cons_of_mem _ h1)
    · rcases List.mem_cons.mp hy with rfl | hy
      · omega
      · exact h3 y hy
/-- one argument -/
theorem rcd1 {r : List V → Hp → VK → Prop} {d z : PyData} (h : ∀ v H1, Ex B H1 → Dq K B v d → ∀ Q : VK, (∀ w G H2, Gr B H1 G H2 → Dq K G w z → Q w H2) → r [v] H1 Q) : RCD K r [d] B z := fun vs H1 x hd Q q => by
  cases hd with
  | cons h1 h2 =>
    cases h2
    exact h _ H1 x h1 Q q
theorem rf_len (ds : List PyData) (z : PyData) (h : lenD ds = some z) : RCD K (rLenU K) ds B z := by
  unfold lenD at h
  split at h
  · cases h
    exact rcd1 fun v H1 x hv Q q => by
      obtain ⟨a, xs, rfl, h1, h2⟩ := hv.lst_of
      refine .inl ⟨a, xs, rfl, .inl (ex_l x h1), ?_⟩
      rw [h2.length]
      exact q _ B H1 (.refl x) (.int _)
  · cases h
    exact rcd1 fun v H1 x hv Q q => by
      obtain ⟨a, xs, rfl, h1, h2⟩ := hv.tup_of
      refine .inl ⟨a, xs, rfl, .inr (ex_t x h1), ?_⟩
      rw [h2.length]
      exact q _ B H1 (.refl x) (.int _)
  · split at h
    · rename_i w hw
      cases h
      exact rcd1 fun v H1 x hv Q q => .inr ⟨w, by rw [hv.str_of], sz_of hw, q _ B H1 (.refl x) (.int _)⟩
    · cases h
  · cases h
theorem rf_int (ds : List PyData) (z : PyData) (h : intD ds = some z) : RCD K rIntU ds B z := by
  unfold intD at h
  split at h
  · cases h
    exact rcd1 fun v H1 x hv Q q => .inl ⟨_, by rw [hv.int_of], q _ B H1 (.refl x) (.int _)⟩
  · rename_i b
    cases h
    exact rcd1 fun v H1 x hv Q q => .inr ⟨b, by rw [hv.bl_of], q _ B H1 (.refl x) (.int _)⟩
  · cases h
theorem rf_tup (ds : List PyData) (z : PyData) (h : tupD ds = some z) : RCD K (rTupU K) ds B z := by
  unfold tupD at h
  split at h
  · cases h
    refine rcd1 fun v H1 x hv Q q => ?_
    obtain ⟨a, xs, rfl, hr, ha⟩ := hv.lst_of
    exact ⟨a, xs, rfl, .inl ⟨ex_l x hr, fun l o hl hoc hod => q _ _ _ (Gr.new x hl) (.tupZ hoc hod upd_same (dpa_mono (Ex.new (fresh_back x hl)) ha))⟩⟩
  · cases h
    refine rcd1 fun v H1 x hv Q q => ?_
    obtain ⟨a, xs, rfl, hr, ha⟩ := hv.tup_of
    exact ⟨a, xs, rfl, .inr ⟨ex_t x hr, q _ _ H1 (.refl x) hv⟩⟩
  · cases h
theorem rf_lst (ds : List PyData) (z : List PyData) (h : lstD ds = some z) : RCDL K (rLstU K) ds B z := by
  unfold lstD at h
  split at h
  · cases h
    exact rcdl_list (b := true)
  · cases h
    exact rcdl_list (b := false)
  · cases h
theorem rf_min2 (ds : List PyData) (z : PyData) (h : min2D ds = some z) : RCD K rMin2 ds B z := by
  unfold min2D at h
  split at h
  · cases h
    exact rcd_min2
  · cases h
theorem rf_max2 (ds : List PyData) (z : PyData) (h : max2D ds = some z) : RCD K rMax2 ds B z := by
  unfold max2D at h
  split at h
  · cases h
    exact rcd_max2
  · cases h
theorem rf_abs (ds : List PyData) (z : PyData) (h : absD ds = some z) : RCD K rAbs ds B z := by
  unfold absD at h
  split at h
  · rename_i i
    cases h
    exact rcd1 fun v H1 x hv Q q => ⟨i, by rw [hv.int_of], by
      rw [show (if i < 0 then -i else i) = (i.natAbs : Int) by split <;> omega]
      exact q _ B H1 (.refl x) (.int _)⟩
  · cases h
theorem rf_sum (ds : List PyData) (z : PyData) (h : sumD ds = some z) : RCD K (rSum K) ds B z := by
  unfold sumD at h
  split at h
  · obtain ⟨ns, h1, rfl⟩ := Option.map_eq_some_iff.mp h
    rw [intsOf_some h1]
    exact rcd1 fun v H1 x hv Q q => by
      obtain ⟨a, xs, rfl, k1, k2⟩ := hv.lst_of
      have e := k2.ints
      subst e
      exact ⟨a, ns, rfl, ex_l x k1, q _ B H1 (.refl x) (.int _)⟩
  · cases h
theorem rf_max (ds : List PyData) (z : PyData) (h : maxD ds = some z) : RCD K (rMax K) ds B z := by
  unfold maxD at h
  split at h
  · split at h
    · rename_i n ns h1
      cases h
      rw [intsOf_some h1]
      exact rcd1 fun v H1 x hv Q q => by
        obtain ⟨a, xs, rfl, k1, k2⟩ := hv.lst_of
        have e := k2.ints
        subst e
        refine ⟨a, n :: ns, rfl, ex_l x k1, Nat.succ_pos _, fun m hm hle => ?_⟩
        obtain ⟨m1, m2, m3⟩ := fold_max_mem ns n
        have e : m = ns.foldl max n := by
          have u1 : ns.foldl max n ≤ m := by
            rcases m1 with m1 | m1
            · rw [m1]
              exact hle n (List.mem_cons_self ..)
            · exact hle _ (List.mem_cons_of_mem _ m1)
          rcases List.mem_cons.mp hm with rfl | hm
          · omega
          · have := m3 m hm
            omega
        rw [e]
        exact q _ B H1 (.refl x) (.int _)
    · cases h
  · cases h
theorem rf_min (ds : List PyData) (z : PyData) (h : minD ds = some z) : RCD K (rMin K) ds B z := by
  unfold minD at h
  split at h
  · split at h
    · rename_i n ns h1
      cases h
      rw [intsOf_some h1]
      exact rcd1 fun v H1 x hv Q q => by
        obtain ⟨a, xs, rfl, k1, k2⟩ := hv.lst_of
        have e := k2.ints
        subst e
        refine ⟨a, n :: ns, rfl, ex_l x k1, Nat.succ_pos _, fun m hm hle => ?_⟩
        obtain ⟨m1, m2, m3⟩ := fold_min_mem ns n
        have e : m = ns.foldl min n := by
          have u1 : m ≤ ns.foldl min n := by
            rcases m1 with m1 | m1
            · rw [m1]
              exact hle n (List.mem_cons_self ..)
            · exact hle _ (List.mem_cons_of_mem _ m1)
          rcases List.mem_cons.mp hm with rfl | hm
          · omega
          · have := m3 m hm
            omega
        rw [e]
        exact q _ B H1 (.refl x) (.int _)
    · cases h
  · cases h
theorem rf_all (ds : List PyData) (z : PyData) (h : allD ds = some z) : RCD K (rAll K) ds B z := by
  unfold allD at h
  split at h
  · obtain ⟨ns, h1, rfl⟩ := Option.map_eq_some_iff.mp h
    rw [blsOf_some h1]
    exact rcd1 fun v H1 x hv Q q => by
      obtain ⟨a, xs, rfl, k1, k2⟩ := hv.lst_of
      have e := dpa_bls k2
      subst e
      exact ⟨a, ns, rfl, ex_l x k1, q _ B H1 (.refl x) (.bl _)⟩
  · cases h
theorem rf_any (ds : List PyData) (z : PyData) (h : anyD ds = some z) : RCD K (rAny K) ds B z := by
  unfold anyD at h
  split at h
  · obtain ⟨ns, h1, rfl⟩ := Option.map_eq_some_iff.mp h
    rw [blsOf_some h1]
    exact rcd1 fun v H1 x hv Q q => by
      obtain ⟨a, xs, rfl, k1, k2⟩ := hv.lst_of
      have e := dpa_bls k2
      subst e
      exact ⟨a, ns, rfl, ex_l x k1, q _ B H1 (.refl x) (.bl _)⟩
  · cases h
theorem rf_repr (ds : List PyData) (z : PyData) (h : reprD ds = some z) : RCD K rRepr ds B z := by
  unfold reprD at h
  split at h
  · rename_i b
    cases h
    exact rcd1 fun v H1 x hv Q q => .inr ⟨b, by rw [hv.bl_of], q _ B H1 (.refl x) (.str _)⟩
  · split at h
    · rename_i i hi
      cases h
      exact rcd1 fun v H1 x hv Q q => .inl ⟨i, by rw [hv.int_of], hi, q _ B H1 (.refl x) (.str _)⟩
    · cases h
  · cases h
theorem rf_sorted (ds : List PyData) (z : List PyData) (h : sortedD ds = some z) : RCDL K (rSortedI K) ds B z := by
  unfold sortedD at h
  split at h
  · obtain ⟨ns, h1, rfl⟩ := Option.map_eq_some_iff.mp h
    rw [intsOf_some h1]
    intro vs H1 x hd Q q
    cases hd with
    | cons hv h2 =>
      cases h2
      obtain ⟨a, xs, rfl, k1, k2⟩ := hv.lst_of
      have e := k2.ints
      subst e
      refine ⟨a, ns, rfl, ex_l x k1, fun ms p hm hp h0 => ?_⟩
      have e := sortI_of hm hp
      subst e
      exact q p _ B _ (fresh_back x h0) h0 (Gr.mut x h0) upd_same (DqAll.of_ints _)
  · cases h
variable {fl fk : Dn (List PyData)} {tr tk : TA}
abbrev dCb (F : List PyData → Option PyData) (fl : Dn (List PyData)) : Dn PyData := dBind fl fun ds => dLift (F ds)
abbrev dCbL (F : List PyData → Option (List PyData)) (fl : Dn (List PyData)) : Dn (List PyData) := dBind fl fun ds => dLift (F ds)
theorem se_len (h : SA K tr fl) : SE K (tCB (rLenU K) tr) (dCb lenD fl) := se_cb (fun B => rf_len) h
theorem se_intC (h : SA K tr fl) : SE K (tCB rIntU tr) (dCb intD fl) := se_cb (fun B => rf_int) h
theorem se_tupC (h : SA K tr fl) : SE K (tCB (rTupU K) tr) (dCb tupD fl) := se_cb (fun B => rf_tup) h
theorem sl_lstC (h : SA K tr fl) : SL K (tCB (rLstU K) tr) (dCbL lstD fl) := sl_cb (fun B => rf_lst) h
theorem se_min2 (h : SA K tr fl) : SE K (tCB rMin2 tr) (dCb min2D fl) := se_cb (fun B => rf_min2) h
theorem se_max2 (h : SA K tr fl) : SE K (tCB rMax2 tr) (dCb max2D fl) := se_cb (fun B => rf_max2) h
theorem se_absC (h : SA K tr fl) : SE K (tCB rAbs tr) (dCb absD fl) := se_cb (fun B => rf_abs) h
theorem se_sum (h : SA K tr fl) : SE K (tCB (rSum K) tr) (dCb sumD fl) := se_cb (fun B => rf_sum) h
theorem se_maxL (h : SA K tr fl) : SE K (tCB (rMax K) tr) (dCb maxD fl) := se_cb (fun B => rf_max) h
theorem se_minL (h : SA K tr fl) : SE K (tCB (rMin K) tr) (dCb minD fl) := se_cb (fun B => rf_min) h
theorem se_all (h : SA K tr fl) : SE K (tCB (rAll K) tr) (dCb allD fl) := se_cb (fun B => rf_all) h
theorem se_any (h : SA K tr fl) : SE K (tCB (rAny K) tr) (dCb anyD fl) := se_cb (fun B => rf_any) h
theorem se_repr (h : SA K tr fl) : SE K (tCB rRepr tr) (dCb reprD fl) := se_cb (fun B => rf_repr) h
theorem sl_sorted (h : SA K tr fl) : SL K (tCB (rSortedI K) tr) (dCbL sortedD fl) := sl_cb (fun B => rf_sorted) h
theorem se_maxDf (h : SA K tr fl) (hk : SA K tk fk) : SE K (tCKw (rMaxDfU K) tr tk) (dBind fl fun ds => dBind fk fun ks => dLift (maxDfD ds ks)) := fun W hW σ e B H a d e' h' Q q => by
  obtain ⟨ds, e1, h1, h2⟩ := dBind_some h'
  obtain ⟨ks, e2, h3, h4⟩ := dBind_some h2
  obtain ⟨h5, rfl⟩ := dLift_some h4
  refine h W hW σ e B H a ds e1 h1 _ fun vs B1 H1 a1 g1 d1 => hk W hW σ e1 B1 H1 a1 ks e' h3 _ fun zs B2 H2 a2 g2 d2 => ?_
  have d3 := dpa_mono g2.go.hg d1
  have go : ∀ (b : Bool) (xs : List PyData) (d0 : Int) ns, intsOf xs = some ns → ds = [rows b xs] → ks = [.int d0] → d = .int (maxOf d0 ns) → rMaxDfU K vs zs H2 Q := fun b xs d0 ns hn e1 e2 e3 => by
    subst e1 e2 e3
    have ez := DqAll.ints (ns := [d0]) d2
    subst ez
    rw [intsOf_some hn] at d3
    cases d3 with
    | cons hv hr =>
      cases hr
      obtain ⟨a', us, rfl, hr', hus⟩ := row_of hv
      have eu := hus.ints
      subst eu
      exact ⟨a', ns, d0, rfl, rfl, hr'.elim (fun z => .inr (ex_l a2.ex z)) (fun z => .inl (ex_t a2.ex z)), q _ B2 H2 a2 (g1.trans g2) (.int _)⟩
  unfold maxDfD at h5
  split at h5
  · obtain ⟨ns, hn, rfl⟩ := Option.map_eq_some_iff.mp h5
    exact go false _ _ ns hn rfl rfl rfl
  · obtain ⟨ns, hn, rfl⟩ := Option.map_eq_some_iff.mp h5
    exact go true _ _ ns hn rfl rfl rfl
  · cases h5
/-! ### isinstance -/
def isiD (c : String) (d : PyData) : Option PyData := if isDi d then none else (kitB (tyD d) c).map .bool
def isi2D (c1 c2 : String) (d : PyData) : Option PyData := if isDi d then none else match kitB (tyD d) c1, kitB (tyD d) c2 with
  | some b1, some b2 => some (.bool (b1 || b2))
  | _, _ => none
theorem se_isi {c : String} (ha : SE K ta f) : SE K (tCB (rIsi K) (tCons ta (tCons (tC (.ty c)) tNil))) (dUn (isiD c) f) := fun W hW σ e B H a d e' h Q q => by
  obtain ⟨x, e1, h1, h⟩ := dBind_some h
  obtain ⟨h3, rfl⟩ := dLift_some h
  unfold isiD at h3
  split at h3
  · cases h3
  rename_i h0
  obtain ⟨b, hb, rfl⟩ := Option.map_eq_some_iff.mp h3
  exact ha W hW σ e B H a x e' h1 _ fun v B1 H1 a1 g1 d1 => ⟨v, .ty c, _, _, b, rfl, .ty c, tyx_of (dp_mono a1.ex d1) (by simpa using h0), kit_ty hb, q _ B1 H1 a1 g1 (.bl b)⟩
theorem se_isi2 {c1 c2 : String} (ha : SE K ta f) : SE K (tCB (rIsiT K) (tCons ta (tCons (tTup (tCons (tC (.ty c1)) (tCons (tC (.ty c2)) tNil))) tNil))) (dUn (isi2D c1 c2) f) := fun W hW σ e B H a d e' h Q q => by
  obtain ⟨x, e1, h1, h⟩ := dBind_some h
  obtain ⟨h3, rfl⟩ := dLift_some h
  unfold isi2D at h3
  split at h3
  · cases h3
  rename_i h0
  split at h3
  · rename_i b1 b2 k1 k2
    cases h3
    refine ha W hW σ e B H a x e' h1 _ fun v B1 H1 a1 g1 d1 => ⟨by show 2 ≤ sizeLine; decide, fun p hp => ?_⟩
    have gr : Gr B1 H1 B1 (upd H1 p (.tup [.ty c1, .ty c2])) := Gr.mut a1.ex hp
    exact ⟨v, p, [.ty c1, .ty c2], _, [.type c1, .type c2], b1 || b2, rfl, upd_same, .cons (.ty c1) (.cons (.ty c2) .nil), tyx_of (dp_mono (a1.ex.trans (Ex.new hp)) d1) (by simpa using h0),
      kitAny_cons (kit_ty k1) (fun z => by
        subst z
        exact kitAny_cons (kit_ty k2) (fun z => by
          subst z
          exact kitAny_nil) fun z => by rw [z]; rfl) (fun z => by rw [z]; rfl), q _ B1 _ (a1.gr gr) (g1.trans (gx_gr gr)) (.bl _)⟩
  · cases h3
end
end Fd
end

section
set_option Elab.async false
set_option linter.all false
set_option maxRecDepth 100000
set_option maxHeartbeats 1000000
/-! Walks by meaning 8: truth, lists of one's own that are read and changed. -/
variable [Fd.Uw]
namespace Fd
open PySem PySem.Spec PyProof.Rows L2 Evl Tb

section
variable {K : PySem.W.Frag} {ta tb te tc : TE} {f g k : Dn PyData} {B : Hp} {fl : Dn (List PyData)} {tr : TA}
/-! ### truth -/
def tTruU (K : PySem.W.Frag) (ta : TE) : TT := fun σ H Q => ta σ H fun x H' => ∃ k, TruV K x H' k ∧ Q k H'
theorem pt_truU {X : Cx} {a : Expr} (ha : PE X a ta) (he : ∀ whole, isTrue a X.env whole = (do let v ← whole; standAt a.pos; holding [v] (truthy v)) := by intro _; rfl) : PT X a (tTruU X.K ta) := pt_truth ha he
def truD : PyData → Option Bool
  | .none => some false
  | .bool b => some b
  | .int i => some (i != 0)
  | .list xs => some (!xs.isEmpty)
  | .tuple xs => some (!xs.isEmpty)
  | .str x => if x.length ≤ 100000 then some ((x.length : Int) != 0) else none
  | _ => none
def dTru (f : Dn PyData) : Dn Bool := dBind f fun x => dLift (truD x)
theorem empty_len {xs : List V} {ds : List PyData} {H : Hp} (h : DqAll K H xs ds) : xs.isEmpty = ds.isEmpty := by
  cases h <;> rfl
theorem st_truU (h : SE K te f) : ST K (tTruU K te) (dTru f) := fun W hW σ e B H a b e' h' Q q => by
  obtain ⟨x, e1, h1, h2⟩ := dBind_some h'
  obtain ⟨h3, rfl⟩ := dLift_some h2
  refine h W hW σ e B H a x e' h1 _ fun v B1 H1 a1 g1 d1 => ⟨b, ?_, q B1 H1 a1 g1⟩
  cases x with
  | none =>
    cases h3
    rw [d1.non_of]
    exact rfl
  | bool c =>
    cases h3
    rw [d1.bl_of]
    exact rfl
  | int i =>
    cases h3
    rw [d1.int_of]
    exact rfl
  | str z =>
    replace h3 : (if z.length ≤ 100000 then some ((z.length : Int) != 0) else none) = some b := h3
    split at h3
    · rename_i hz
      cases h3
      rw [d1.str_of]
      exact ⟨sz_of hz, rfl⟩
    · cases h3
  | list xs =>
    cases h3
    obtain ⟨p, us, rfl, k1, k2⟩ := d1.lst_of
    exact .inl ⟨us, ex_l a1.ex k1, by rw [empty_len k2]⟩
  | tuple xs =>
    cases h3
    obtain ⟨p, us, rfl, k1, k2⟩ := d1.tup_of
    exact .inr (.inl ⟨us, ex_t a1.ex k1, by rw [empty_len k2]⟩)
  | dict xs => cases h3

/-! ### a list of one's own, read where it stands -/
def ownL (e : En) (i : Nat) : Option (List PyData) := match e[i]? with
  | some (.o xs) => some xs
  | some (.p xs) => some xs
  | _ => none
theorem ownL_some {e : En} {i : Nat} {xs : List PyData} (h : ownL e i = some xs) : ∃ s, e[i]? = some s ∧ s.own = some (.l xs) := by
  unfold ownL at h
  split at h
  · cases h
    exact ⟨_, by assumption, rfl⟩
  · cases h
    exact ⟨_, by assumption, rfl⟩
  · cases h
/-- x[i], x at a slot: its list stays one's own -/
def dIxV (i : Nat) (g : Dn PyData) : Dn PyData := fun e => match ownL e i with
  | none => dOp ixD (dVar i) g e
  | some _ => match g e with
    | none => none
    | some (y, e1) => match ownL e1 i with
      | some xs => (match y with
        | .int k => (atI xs k).map fun d => (d, e1)
        | _ => none)
      | none => none
theorem se_ixV {i : Nat} (hb : SE K tb g) : SE K (tOp (rIx K) (tVar i) tb) (dIxV i g) := fun W hW σ e B H a d e' h Q q => by
  unfold dIxV at h
  split at h
  · exact se_ix se_var hb W hW σ e B H a d e' h Q q
  · rename_i xs0 ho
    obtain ⟨s0, i0, o0⟩ := ownL_some ho
    split at h
    · cases h
    rename_i y e1 h1
    split at h
    · rename_i xs ho1
      split at h
      · rename_i kk
        obtain ⟨d', hd, h2⟩ := Option.map_eq_some_iff.mp h
        cases h2
        obtain ⟨s1, i1, o1⟩ := ownL_some ho1
        obtain ⟨p, us0, k1, _⟩ := own_at a i0 o0
        refine ⟨.ref p, k1, hb W hW σ e B H a _ e' h1 _ fun v B1 H1 a1 g1 d1 => ?_⟩
        obtain ⟨p', us, k2, k3, k4, k5⟩ := own_at a1 i1 o1
        rw [k1] at k2
        cases k2
        rw [hW] at k5
        obtain ⟨w, w1, w2⟩ := at_dp k5 hd
        exact .inl ⟨p, us, kk, w, rfl, d1.int_of, sq_of k4, w1, q w B1 H1 a1 g1 w2⟩
      · cases h
    · cases h
def dLenV (i : Nat) : Dn PyData := fun e => match ownL e i with
  | none => dCb lenD (dCons (dVar i) (dK [])) e
  | some xs => some (.int xs.length, e)
theorem se_lenV {i : Nat} : SE K (tCB (rLenU K) (tCons (tVar i) tNil)) (dLenV i) := fun W hW σ e B H a d e' h Q q => by
  unfold dLenV at h
  split at h
  · exact se_len (sa_cons se_var sa_nil) W hW σ e B H a d e' h Q q
  · rename_i xs ho
    cases h
    obtain ⟨s0, i0, o0⟩ := ownL_some ho
    obtain ⟨p, us, k1, k2, k3, k4⟩ := own_at a i0 o0
    refine ⟨.ref p, k1, .inl ⟨p, us, rfl, .inl (sq_of k3), ?_⟩⟩
    rw [DqAll.length k4]
    exact q _ B H a (.refl _ _ _ _) (.int _)
/-- tuple(x), list(x), x a list of one's own: it stays so -/
def dTupV (i : Nat) : Dn PyData := fun e => match ownL e i with
  | none => dCb tupD (dCons (dVar i) (dK [])) e
  | some xs => some (.tuple xs, e)
theorem se_tupV {i : Nat} : SE K (tCB (rTupU K) (tCons (tVar i) tNil)) (dTupV i) := fun W hW σ e B H a d e' h Q q => by
  unfold dTupV at h
  split at h
  · exact se_tupC (sa_cons se_var sa_nil) W hW σ e B H a d e' h Q q
  · rename_i xs ho
    cases h
    obtain ⟨s0, i0, o0⟩ := ownL_some ho
    obtain ⟨p, us, k1, k2, k3, k4⟩ := own_at a i0 o0
    rw [hW] at k4
    refine ⟨.ref p, k1, p, us, rfl, .inl ⟨sq_of k3, fun r o hr hoc hod => ?_⟩⟩
    have gr : Gr B H (upd B r (.frz o (.tup us))) _ := Gr.new a.ex hr
    exact q _ _ _ (a.gr gr) (gx_gr gr) (.tupZ hoc hod upd_same (dpa_mono gr.hg k4))
def dLstV (i : Nat) : Dn (List PyData) := fun e => match ownL e i with
  | none => dCbL lstD (dCons (dVar i) (dK [])) e
  | some xs => some (xs, e)
theorem sl_lstV {i : Nat} : SL K (tCB (rLstU K) (tCons (tVar i) tNil)) (dLstV i) := fun W hW σ e B H a d e' h Q q => by
  unfold dLstV at h
  split at h
  · exact sl_lstC (sa_cons se_var sa_nil) W hW σ e B H a d e' h Q q
  · rename_i xs ho
    cases h
    obtain ⟨s0, i0, o0⟩ := ownL_some ho
    obtain ⟨p, us, k1, k2, k3, k4⟩ := own_at a i0 o0
    rw [hW] at k4
    refine ⟨.ref p, k1, p, us, rfl, .inl (sq_of k3), fun r hr => ?_⟩
    have gr : Gr B H B (upd H r (.lst us)) := Gr.mut a.ex hr
    exact q r us _ _ (a.gr gr) (gx_gr gr) hr upd_same (fresh_back a.ex hr) k4
/-- x[a:b], x a list of one's own -/
def dSlV (i : Nat) (l u : Dn (Option Int)) : Dn (List PyData) := fun e => match ownL e i with
  | none => dSlL (dVar i) l u e
  | some _ => dBind l (fun lo => dBind u fun hi => fun e2 => (ownL e2 i).map fun xs => (cutL xs lo hi, e2)) e
theorem sl_slV {i : Nat} {tl th : TO} {l u : Dn (Option Int)} (hl : SO K tl l) (hu : SO K th u) : SL K (tSl (rSlU K) (tVar i) tl th) (dSlV i l u) := fun W hW σ e B H a d e' h Q q => by
  unfold dSlV at h
  split at h
  · exact sl_sl se_var hl hu W hW σ e B H a d e' h Q q
  · rename_i xs ho
    obtain ⟨s0, i0, o0⟩ := ownL_some ho
    obtain ⟨lo, e2, h3, h4⟩ := dBind_some h
    obtain ⟨hi, e3, h5, h6⟩ := dBind_some h4
    obtain ⟨ys, ho2, h7⟩ := Option.map_eq_some_iff.mp h6
    cases h7
    obtain ⟨s1, i1, o1⟩ := ownL_some ho2
    obtain ⟨p, us0, k1, _⟩ := own_at a i0 o0
    refine ⟨.ref p, k1, hl W hW σ e B H a lo e2 h3 _ fun B2 H2 a2 g2 => hu W hW σ e2 B2 H2 a2 hi e' h5 _ fun B3 H3 a3 g3 => ?_⟩
    obtain ⟨p', us, k2, k3, k4, k5⟩ := own_at a3 i1 o1
    rw [k1] at k2
    cases k2
    rw [hW] at k5
    refine .inl ⟨p, us, rfl, sq_of k4, fun r hr => ?_⟩
    have gr : Gr B3 H3 B3 (upd H3 r (.lst (cutV us lo hi))) := Gr.mut a3.ex hr
    exact q r _ _ _ (a3.gr gr) ((g2.trans g3).trans (gx_gr gr)) (g2.go.dm r (g3.go.dm r hr)) upd_same (fresh_back a3.ex hr) (cut_all k5 lo hi)

/-! ### a list of one's own, changed -/
def putL (e : En) (i : Nat) (ys : List PyData) : Option En := match e[i]? with
  | some (.o _) => some (e.set i (.o ys))
  | some (.p _) => some (e.set i (.p ys))
  | _ => none
theorem putL_some {e e' : En} {i : Nat} {ys : List PyData} (h : putL e i ys = some e') : ∃ s s' xs, e[i]? = some s ∧ s.own = some (.l xs) ∧ s'.own = some (.l ys) ∧ s.isP = s'.isP ∧ e' = e.set i s' := by
  unfold putL at h
  split at h
  · rename_i xs hx
    cases h
    exact ⟨.o xs, .o ys, xs, hx, rfl, rfl, rfl, rfl⟩
  · rename_i xs hx
    cases h
    exact ⟨.p xs, .p ys, xs, hx, rfl, rfl, rfl, rfl⟩
  · cases h
theorem at_put {W : Wo} {σ : L2.St} {e e' : En} {B H : Hp} {i : Nat} {ys : List PyData} {p : Addr} {us : List V} (a : At W σ e B H) (h : putL e i ys = some e') (hp : σ[i]? = some (some (.ref p))) (hv : DqAll W.K B us ys) : At W σ e' B (upd H p (.lst us)) ∧ Go W.M B H B (upd H p (.lst us)) := by
  obtain ⟨s, s', xs, k1, k2, k3, k4, rfl⟩ := putL_some h
  exact a.put k1 k2 k3 k4 hp hv
def few (xs : List PyData) : Bool := decide (xs.length < 90000)
/-- what a call changes at a slot -/
def sMeth (i : Nat) (F : List PyData → List PyData → Option (List PyData)) (fl : Dn (List PyData)) : Ds := fun e => match ownL e i with
  | none => none
  | some _ => match fl e with
    | none => none
    | some (ds, e1) => match ownL e1 i with
      | none => none
      | some xs => if few xs = true then (match F xs ds with
        | none => none
        | some ys => (putL e1 i ys).map .nx) else none
/-- the rule of a method: what it asks of the machine -/
def MtF (K : PySem.W.Frag) (r : V → List V → Hp → VK → Prop) (F : List PyData → List PyData → Option (List PyData)) : Prop := ∀ (B H : Hp) (p : Addr) (us vs : List V) (xs ds ys : List PyData), Ex B H → B p = none → H p = some (.lst us) → DqAll K B us xs → DqAll K B vs ds → us.length < 90000 → F xs ds = some ys →
  ∀ Q : VK, (∀ ws, DqAll K B ws ys → Q .non (upd H p (.lst ws))) → r (.ref p) vs H Q
theorem ss_meth {i : Nat} {r : V → List V → Hp → VK → Prop} {F : List PyData → List PyData → Option (List PyData)} (hr : MtF K r F) (h : SA K tr fl) : SS K (tDrop (tBM K "list" r (tVar i) tr)) (sMeth i F fl) := fun W hW σ e B H a rs hrs D q => by
  unfold sMeth at hrs
  split at hrs
  · cases hrs
  rename_i xs0 ho
  split at hrs
  · cases hrs
  rename_i ds e1 h1
  split at hrs
  · cases hrs
  rename_i xs ho1
  by_cases hf : few xs = true
  case neg =>
    rw [if_neg hf] at hrs
    cases hrs
  rw [if_pos hf] at hrs
  split at hrs
  · cases hrs
  rename_i ys hF
  obtain ⟨e2, hput, rfl⟩ := Option.map_eq_some_iff.mp hrs
  obtain ⟨s0, i0, o0⟩ := ownL_some ho
  obtain ⟨s1, i1, o1⟩ := ownL_some ho1
  obtain ⟨p, us0, k1, _, k3', _⟩ := own_at a i0 o0
  refine ⟨.ref p, k1, .inl ⟨rfl, us0, sq_of k3'⟩, h W hW σ e B H a ds e1 h1 _ fun vs B1 H1 a1 g1 d1 => ?_⟩
  obtain ⟨p', us, k2, k3, k4, k5⟩ := own_at a1 i1 o1
  rw [k1] at k2
  cases k2
  rw [hW] at k5
  have hl : us.length < 90000 := by
    rw [DqAll.length k5]
    exact of_decide_eq_true hf
  refine hr B1 H1 p us vs xs ds ys a1.ex k3 k4 k5 d1 hl hF _ fun ws hws => ?_
  obtain ⟨a2, g2⟩ := at_put a1 hput k1 (hW ▸ hws)
  exact q σ B1 _ a2 ((a.goM g1).trans g2)
def appF (xs ds : List PyData) : Option (List PyData) := match ds with
  | [d] => some (xs ++ [d])
  | _ => none
def extF (xs ds : List PyData) : Option (List PyData) := match ds with
  | [.list ys] => if ys.length < 9000 then some (xs ++ ys) else none
  | [.tuple ys] => if ys.length < 9000 then some (xs ++ ys) else none
  | _ => none
def insF (xs ds : List PyData) : Option (List PyData) := match ds with
  | [.int k, d] => if 0 ≤ k ∧ k < 1000000 then some (xs.take k.toNat ++ [d] ++ xs.drop k.toNat) else none
  | _ => none
theorem mf_app : MtF K rAppend appF := fun B H p us vs xs ds ys x hB hH hu hv hl hF Q q => by
  unfold appF at hF
  split at hF
  · cases hF
    cases hv with
    | cons h1 h2 =>
      cases h2
      exact ⟨p, us, _, rfl, rfl, hH, sz_lt (by omega), q _ (hu.append (.one h1))⟩
  · cases hF
def rExtU (K : PySem.W.Frag) : V → List V → Hp → VK → Prop := fun x vs H Q => ∃ l b xs zs, x = .ref l ∧ vs = [.ref b] ∧ H l = some (.lst xs) ∧ (SqT K H b zs ∨ H b = some (.lst zs)) ∧ xs.length + zs.length ≤ sizeLine ∧ Q .non (upd H l (.lst (xs ++ zs)))
theorem mt_extU {X : Cx} : MtM X "list.extend" (rExtU X.K) := fun pins s σ H x vs v us Q I rx rv h => by
  obtain ⟨l, b, xs, zs, h1, h2, h3, h4, h5, h6⟩ := h
  rcases h4 with h4 | h4
  · exact mt_extA pins s σ H x vs v us Q I rx rv ⟨l, b, xs, zs, h1, h2, h3, h4, h5, h6⟩
  · exact mt_extend pins s σ H x vs v us Q I rx rv ⟨l, b, xs, zs, h1, h2, h3, h4, h5, h6⟩
def rInsU : V → List V → Hp → VK → Prop := fun x vs H Q => ∃ (l : Addr) (xs : List V) (i : Int) (y : V), x = .ref l ∧ vs = [.int i, y] ∧ H l = some (.lst xs) ∧ xs.length < sizeLine ∧ 0 ≤ i ∧ i < 2 ^ 63 ∧
    Q .non (upd H l (.lst (xs.take i.toNat ++ [y] ++ xs.drop i.toNat)))
theorem mt_insU {X : Cx} : MtR X "list.insert" rInsU := mt_insert
theorem mf_ins : MtF K rInsU insF := fun B H p us vs xs ds ys x hB hH hu hv hl hF Q q => by
  unfold insF at hF
  split at hF
  · rename_i k d
    split at hF
    · rename_i hk
      cases hF
      cases hv with
      | cons h1 h2 =>
        cases h2 with
        | cons h2 h3 =>
          cases h3
          have bg : (1000000 : Int) < 2 ^ 63 := by decide
          refine ⟨p, us, k, _, rfl, by rw [h1.int_of], hH, sz_lt (by omega), hk.1, by omega, q _ (((hu.take _).append (.one h2)).append (hu.drop _))⟩
    · cases hF
  · cases hF
/-- name.extend(a new list): the list display or comprehension is made, then taken over -/
def sExtL (i : Nat) (fl : Dn (List PyData)) : Ds := fun e => match ownL e i with
  | none => none
  | some _ => match fl e with
    | none => none
    | some (ys, e1) => match ownL e1 i with
      | none => none
      | some xs => if (few xs && decide (ys.length < 9000)) = true then (putL e1 i (xs ++ ys)).map .nx else none
theorem ss_extL {i : Nat} (h : SL K te fl) : SS K (tDrop (tBM K "list" (rExtU K) (tVar i) (tCons te tNil))) (sExtL i fl) := fun W hW σ e B H a rs hrs D q => by
  unfold sExtL at hrs
  split at hrs
  · cases hrs
  rename_i xs0 ho
  split at hrs
  · cases hrs
  rename_i ys e1 h1
  split at hrs
  · cases hrs
  rename_i xs ho1
  by_cases hf : (few xs && decide (ys.length < 9000)) = true
  case neg =>
    rw [if_neg hf] at hrs
    cases hrs
  rw [if_pos hf] at hrs
  rw [Bool.and_eq_true] at hf
  obtain ⟨e2, hput, rfl⟩ := Option.map_eq_some_iff.mp hrs
  obtain ⟨s0, i0, o0⟩ := ownL_some ho
  obtain ⟨s1, i1, o1⟩ := ownL_some ho1
  obtain ⟨p, us0, k1, _, k3', _⟩ := own_at a i0 o0
  refine ⟨.ref p, k1, .inl ⟨rfl, us0, sq_of k3'⟩, h W hW σ e B H a ys e1 h1 _ fun r vs B1 H1 a1 g1 r0 hr hB1 d1 => ?_⟩
  obtain ⟨p', us, k2, k3, k4, k5⟩ := own_at a1 i1 o1
  rw [k1] at k2
  cases k2
  rw [hW] at k5
  have h1' := of_decide_eq_true hf.1
  have h2' := of_decide_eq_true hf.2
  refine ⟨p, r, us, vs, rfl, rfl, k4, .inr hr, sz_of (by rw [DqAll.length k5, DqAll.length d1]; omega), ?_⟩
  obtain ⟨a2, g2⟩ := at_put a1 hput k1 (hW ▸ k5.append d1)
  exact q σ B1 _ a2 ((a.goM g1).trans g2)
/-- name.extend(a tuple) -/
def extT (xs ds : List PyData) : Option (List PyData) := match ds with
  | [.tuple ys] => if ys.length < 9000 then some (xs ++ ys) else none
  | _ => none
theorem mf_extT : MtF K (rExtU K) extT := fun B H p us vs xs ds ys x hB hH hu hv hl hF Q q => by
  unfold extT at hF
  split at hF
  · rename_i zs
    split at hF
    · rename_i hz
      cases hF
      cases hv with
      | cons h1 h2 =>
        cases h2
        obtain ⟨b, ws, rfl, k1, k2⟩ := h1.tup_of
        exact ⟨p, b, us, ws, rfl, rfl, hH, .inl (ex_t x k1), sz_of (by rw [DqAll.length k2]; omega), q _ (hu.append k2)⟩
    · cases hF
  · cases hF

/-! ### stores -/
/-- name[k] = v -/
def sSetIx (i : Nat) (fv fk : Dn PyData) : Ds := fun e => match fv e with
  | none => none
  | some (d, e1) => match ownL e1 i with
    | none => none
    | some _ => match fk e1 with
      | none => none
      | some (y, e2) => match ownL e2 i with
        | none => none
        | some xs => match y with
          | .int k => match ixN xs.length k with
            | some j => (putL e2 i (xs.set j d)).map .nx
            | none => none
          | _ => none
theorem dpa_set {H : Hp} {v : V} {d : PyData} (hv : Dq K H v d) : ∀ {xs : List V} {ds : List PyData} (j : Nat), DqAll K H xs ds → DqAll K H (xs.set j v) (ds.set j d)
  | _, _, _, .nil => .nil
  | _, _, 0, .cons _ h2 => .cons hv h2
  | _, _, j + 1, .cons h1 h2 => .cons h1 (dpa_set hv j h2)
theorem ss_setIx {i : Nat} (hv : SE K te f) (hk : SE K tb g) : SS K (tAsg te (gSub (tVar i) tb rSetL)) (sSetIx i f g) := fun W hW σ e B H a rs hrs D q => by
  unfold sSetIx at hrs
  split at hrs
  · cases hrs
  rename_i d e1 h1
  split at hrs
  · cases hrs
  rename_i xs0 ho
  split at hrs
  · cases hrs
  rename_i y e2 h2
  split at hrs
  · cases hrs
  rename_i xs ho2
  split at hrs
  · rename_i k
    split at hrs
    · rename_i j hj
      obtain ⟨e3, hput, rfl⟩ := Option.map_eq_some_iff.mp hrs
      obtain ⟨s0, i0, o0⟩ := ownL_some ho
      obtain ⟨s1, i1, o1⟩ := ownL_some ho2
      refine hv W hW σ e B H a d e1 h1 _ fun v B1 H1 a1 g1 d1 => ?_
      obtain ⟨p, us0, k1, _⟩ := own_at a1 i0 o0
      refine ⟨.ref p, k1, hk W hW σ e1 B1 H1 a1 _ e2 h2 _ fun w B2 H2 a2 g2 d2 => ?_⟩
      obtain ⟨p', us, k2, k3, k4, k5⟩ := own_at a2 i1 o1
      rw [k1] at k2
      cases k2
      rw [hW] at k5
      obtain ⟨a3, g3⟩ := at_put a2 hput k1 (hW ▸ dpa_set (dp_mono g2.go.hg d1) j k5)
      exact ⟨p, us, k, j, rfl, d2.int_of, k4, by rw [DqAll.length k5]; exact hj, q σ B2 _ a3 (((a.goM g1).trans (a1.goM g2)).trans g3)⟩
    · cases hrs
  · cases hrs
/-- name[:k] = a new list -/
def sSetHead (i : Nat) (fv : Dn (List PyData)) (fu : Dn (Option Int)) : Ds := fun e => match fv e with
  | none => none
  | some (ys, e1) => match ownL e1 i with
    | none => none
    | some _ => match fu e1 with
      | none => none
      | some (o, e2) => match ownL e2 i with
        | none => none
        | some xs => match o with
          | some k => if (decide (0 ≤ k ∧ k ≤ xs.length) && decide (xs.length + ys.length ≤ 90000)) = true then (putL e2 i (ys ++ xs.drop k.toNat)).map .nx else none
          | none => none
theorem ss_setHead {i : Nat} {th : TO} {fu : Dn (Option Int)} (hv : SL K te fl) (hk : SO K th fu) : SS K (tAsg te (gHead (tVar i) th)) (sSetHead i fl fu) := fun W hW σ e B H a rs hrs D q => by
  unfold sSetHead at hrs
  split at hrs
  · cases hrs
  rename_i ys e1 h1
  split at hrs
  · cases hrs
  rename_i xs0 ho
  split at hrs
  · cases hrs
  rename_i o e2 h2
  split at hrs
  · cases hrs
  rename_i xs ho2
  cases o with
  | none => cases hrs
  | some k =>
  replace hrs : (if (decide (0 ≤ k ∧ k ≤ xs.length) && decide (xs.length + ys.length ≤ 90000)) = true then (putL e2 i (ys ++ xs.drop k.toNat)).map .nx else none) = some rs := hrs
  by_cases hf : (decide (0 ≤ k ∧ k ≤ xs.length) && decide (xs.length + ys.length ≤ 90000)) = true
  case neg =>
    rw [if_neg hf] at hrs
    cases hrs
  rw [if_pos hf] at hrs
  rw [Bool.and_eq_true] at hf
  have f1 := of_decide_eq_true hf.1
  have f2 := of_decide_eq_true hf.2
  obtain ⟨e3, hput, rfl⟩ := Option.map_eq_some_iff.mp hrs
  obtain ⟨s0, i0, o0⟩ := ownL_some ho
  obtain ⟨s1, i1, o1⟩ := ownL_some ho2
  refine hv W hW σ e B H a ys e1 h1 _ fun r vs B1 H1 a1 g1 r0 hr hB1 d1 => ?_
  obtain ⟨p, us0, k1, _, k3', _⟩ := own_at a1 i0 o0
  have nor : ¬ Ow σ e1 r := fun z => (a.ow (g1.ow r z)).2.1 r0
  have pr : p ≠ r := fun z => nor ⟨i, s0, .l xs0, i0, o0, by rw [← z]; exact k1⟩
  refine ⟨.ref p, k1, hk W hW σ e1 B1 H1 a1 _ e2 h2 _ fun B2 H2 a2 g2 => ?_⟩
  obtain ⟨p', us, k2, k3, k4, k5⟩ := own_at a2 i1 o1
  rw [k1] at k2
  cases k2
  rw [hW] at k5
  have hr2 := g2.go.fr r _ nor hr
  have hd : DqAll K B2 (vs ++ us.drop k.toNat) (ys ++ xs.drop k.toNat) := (dpa_mono g2.go.hg d1).append (k5.drop _)
  obtain ⟨a3, g3⟩ := at_put a2 hput k1 (hW ▸ hd)
  have l1 := DqAll.length k5
  have l2 := DqAll.length d1
  exact ⟨p, r, us, vs, k.toNat, rfl, congrArg some (by omega), rfl, k4, hr2, pr, by omega, sz_of (by omega), q σ B2 _ a3 (((a.goM g1).trans (a1.goM g2)).trans g3)⟩
/-- name += e, ints -/
def sAug (i : Nat) (F : Int → Int → Int) (fv : Dn PyData) : Ds := fun e => match e[i]? with
  | some (.d (.int m)) => match fv e with
    | some (.int n, e1) => (setD i (.int (F m n)) e1).map .nx
    | _ => none
  | _ => none
theorem ss_aug {i : Nat} {F : Int → Int → Int} (h : SE K te f) : SS K (tAug i te (ipI F)) (sAug i F f) := fun W hW σ e B H a rs hrs D q => by
  unfold sAug at hrs
  split at hrs
  · rename_i m hm
    split at hrs
    · rename_i n e1 h1
      obtain ⟨e2, h2, rfl⟩ := Option.map_eq_some_iff.mp hrs
      unfold setD at h2
      split at h2
      · rename_i hc
        cases h2
        obtain ⟨v, k1, k2⟩ := a.dat i _ hm
        have ev := k2.int_of
        subst ev
        refine ⟨_, k1, h W hW σ e B H a _ e1 h1 _ fun w B1 H1 a1 g1 d1 => ⟨m, n, rfl, d1.int_of, q _ B1 H1 (a1.setD (can_pn a1 hc) (.int _)) (a.goM g1)⟩⟩
      · cases h2
    · cases hrs
  · cases hrs
/-- a new list times an int -/
def dRep (fl : Dn (List PyData)) (g : Dn PyData) : Dn (List PyData) := dBind fl fun xs => dBind g fun y => match y with
  | .int k => if -1000 ≤ k ∧ k ≤ 1000 ∧ xs.length ≤ 90 then dK (List.replicate k.toNat xs).flatten else fun _ => none
  | _ => fun _ => none
theorem sl_rep (ha : SL K ta fl) (hb : SE K tb g) : SL K (tOp rRep ta tb) (dRep fl g) := fun W hW σ e B H a d e' h Q q => by
  obtain ⟨xs, e1, h1, h2⟩ := dBind_some h
  obtain ⟨y, e2, h3, h4⟩ := dBind_some h2
  split at h4
  · rename_i k
    split at h4
    · rename_i hk
      obtain ⟨rfl, rfl⟩ := dK_some h4
      refine ha W hW σ e B H a xs e1 h1 _ fun p us B1 H1 a1 g1 p0 hp pB d1 => ?_
      have nor : ¬ Ow σ e1 p := fun z => (a.ow (g1.ow p z)).2.1 p0
      refine hb W hW σ e1 B1 H1 a1 _ e' h3 _ fun w B2 H2 a2 g2 d2 => ?_
      have bg : (1000000 : Int) < 2 ^ 63 := by decide
      have hl := DqAll.length d1
      have hm : us.length * k.toNat ≤ 90 * 1000 := Nat.mul_le_mul (by omega) (by omega)
      refine ⟨p, k, us, rfl, d2.int_of, g2.go.fr p _ nor hp, by omega, by omega, Nat.le_trans hm (by decide), fun r hr => ?_⟩
      have gr : Gr B2 H2 B2 (upd H2 r (.lst (List.replicate k.toNat us).flatten)) := Gr.mut a2.ex hr
      exact q r _ _ _ (a2.gr gr) ((g1.trans g2).trans (gx_gr gr)) (g1.go.dm r (g2.go.dm r hr)) upd_same (fresh_back a2.ex hr) (dpa_rep _ (dpa_mono g2.go.hg d1))
    · cases h4
  · cases h4
/-- list(range(i, j)), list(range(j)) -/
def dLRg2 (f g : Dn PyData) : Dn (List PyData) := dBind f fun x => dBind g fun y => match x, y with
  | .int i, .int j => if 0 ≤ i ∧ i ≤ 1000000 ∧ 0 ≤ j ∧ j ≤ 1000000 then dK (rgD i (j - i).toNat) else fun _ => none
  | _, _ => fun _ => none
theorem dpa_rg (i : Int) (n : Nat) (H : Hp) : DqAll K H ((List.range n).map fun m => V.int (i + (m : Nat))) (rgD i n) := by
  unfold rgD
  have all : ∀ l : List Nat, DqAll K H (l.map fun m => V.int (i + (m : Nat))) (l.map fun m => PyData.int (i + (m : Nat))) := fun l => by
    induction l with
    | nil => exact .nil
    | cons a l ih => exact .cons (.int _) ih
  exact all _
theorem sl_lrg2 (ha : SE K ta f) (hb : SE K tb g) : SL K (tLstRg (tRg2 ta tb)) (dLRg2 f g) := fun W hW σ e B H a d e' h Q q => by
  obtain ⟨x, e1, h1, h2⟩ := dBind_some h
  obtain ⟨y, e2, h3, h4⟩ := dBind_some h2
  split at h4
  · rename_i i j
    split at h4
    · rename_i hk
      obtain ⟨rfl, rfl⟩ := dK_some h4
      refine ha W hW σ e B H a _ e1 h1 _ fun v B1 H1 a1 g1 d1 => hb W hW σ e1 B1 H1 a1 _ e' h3 _ fun w B2 H2 a2 g2 d2 => ⟨i, j, d1.int_of, d2.int_of, .of_le hk.1 (by omega) (by omega) hk.2.2.1, fun r hr => ?_⟩
      have gr : Gr B2 H2 B2 (upd H2 r (.lst (rgV i j))) := Gr.mut a2.ex hr
      exact q r _ _ _ (a2.gr gr) ((g1.trans g2).trans (gx_gr gr)) (g1.go.dm r (g2.go.dm r hr)) upd_same (fresh_back a2.ex hr) (dpa_rg i _ B2)
    · cases h4
  · cases h4
def dLRg1 (f : Dn PyData) : Dn (List PyData) := dBind f fun x => match x with
  | .int j => if 0 ≤ j ∧ j ≤ 1000000 then dK (rgD 0 j.toNat) else fun _ => none
  | _ => fun _ => none
theorem sl_lrg1 (ha : SE K ta f) : SL K (tLstRg (tRg1 ta)) (dLRg1 f) := fun W hW σ e B H a d e' h Q q => by
  obtain ⟨x, e1, h1, h2⟩ := dBind_some h
  split at h2
  · rename_i j
    split at h2
    · rename_i hk
      obtain ⟨rfl, rfl⟩ := dK_some h2
      refine ha W hW σ e B H a _ e' h1 _ fun v B1 H1 a1 g1 d1 => ⟨j, d1.int_of, .of_le (Int.le_refl 0) (by omega) (by omega) hk.1, fun r hr => ?_⟩
      have gr : Gr B1 H1 B1 (upd H1 r (.lst (rgV 0 j))) := Gr.mut a1.ex hr
      have hd : DqAll K B1 (rgV 0 j) (rgD 0 j.toNat) := by
        have := dpa_rg (K := K) 0 (j - 0).toNat B1
        rw [Int.sub_zero] at this
        rw [show rgV 0 j = (List.range j.toNat).map fun m => V.int (0 + (m : Nat)) by
          show (List.range (j - 0).toNat).map (fun m => V.int (0 + (m : Nat))) = _
          rw [Int.sub_zero]]
        exact this
      exact q r _ _ _ (a1.gr gr) (g1.trans (gx_gr gr)) (g1.go.dm r hr) upd_same (fresh_back a1.ex hr) hd
    · cases h2
  · cases h2
end
end Fd
end

section
set_option Elab.async false
set_option linter.all false
set_option maxRecDepth 100000
set_option maxHeartbeats 1000000
/-! Walks by meaning 9: zip, several targets of both kinds, the law. -/
variable [Fd.Uw]
namespace Fd
open PySem PySem.Spec PyProof.Rows L2 Evl Tb

theorem bb_sorted : bootBuiltins "sorted" = some (.builtin "sorted") := by decide +kernel
theorem bb_all : bootBuiltins "all" = some (.builtin "all") := by decide +kernel
theorem bb_any : bootBuiltins "any" = some (.builtin "any") := by decide +kernel
theorem bb_repr : bootBuiltins "repr" = some (.builtin "repr") := by decide +kernel
/-- the built-in names that a module does not name anew -/
structure Bm (mg : Str → Option Value) : Prop where
  int : mg "int" = none
  bool : mg "bool" = none
  str : mg "str" = none
  list : mg "list" = none
  tuple : mg "tuple" = none
  dict : mg "dict" = none
  set : mg "set" = none
  len : mg "len" = none
  max : mg "max" = none
  min : mg "min" = none
  abs : mg "abs" = none
  sum : mg "sum" = none
  all : mg "all" = none
  any : mg "any" = none
  repr : mg "repr" = none
  sorted : mg "sorted" = none
  zip : mg "zip" = none
  isinstance : mg "isinstance" = none
  enumerate : mg "enumerate" = none
  reversed : mg "reversed" = none
  range : mg "range" = none

def zipD : List PyData → List PyData → List PyData := List.zipWith fun x y => .tuple [x, y]
/-- no pair of two pairs of ints comes of it -/
def zipOk (xs ys : List PyData) : Bool := (xs.all fun d => !pairI d) || (ys.all fun d => !pairI d)
theorem zip_no {xs ys : List PyData} (h : zipOk xs ys = true) {x y : PyData} (hx : x ∈ xs) (hy : y ∈ ys) : towerish [x, y] = false := by
  unfold zipOk at h
  rw [Bool.or_eq_true] at h
  show (pairI x && (pairI y && true)) = false
  rcases h with h | h
  · have := List.all_eq_true.mp h x hx
    rw [Bool.not_eq_true'] at this
    rw [this]
    rfl
  · have := List.all_eq_true.mp h y hy
    rw [Bool.not_eq_true'] at this
    rw [this]
    simp
def dZip (f : Dn (List PyData)) : Dn (List PyData) := dBind f fun ds => match ds with
  | [.list xs, .list ys] => if zipOk xs ys = true then dK (zipD xs ys) else fun _ => none
  | _ => fun _ => none
section
variable {K : PySem.W.Frag} {ta tb te : TE} {tr : TA} {f g : Dn PyData} {fl fk : Dn (List PyData)} {B : Hp}
theorem zip_get (xs ys : List PyData) (i : Nat) (d : PyData) (h : (zipD xs ys)[i]? = some d) : ∃ x y, xs[i]? = some x ∧ ys[i]? = some y ∧ d = .tuple [x, y] := by
  unfold zipD at h
  rw [List.getElem?_zipWith] at h
  cases hx : xs[i]? with
  | none =>
    rw [hx] at h
    cases h
  | some x =>
    cases hy : ys[i]? with
    | none =>
      rw [hx, hy] at h
      cases h
    | some y =>
      rw [hx, hy] at h
      cases h
      exact ⟨x, y, rfl, rfl, rfl⟩
theorem si_zip (h : SA K tr fl) : SI K (iZip K tr) (dZip fl) := fun W hW σ e B H a ds e' h' R q => by
  obtain ⟨d, e1, h1, h2⟩ := dBind_some h'
  split at h2
  · rename_i xs ys
    split at h2
    case isFalse => cases h2
    rename_i hzo
    obtain ⟨rfl, rfl⟩ := dK_some h2
    refine h W hW σ e B H a _ e' h1 _ fun vs B1 H1 a1 g1 d1 => ?_
    cases d1 with
    | cons hv hr =>
      cases hr with
      | cons hv2 hr =>
        cases hr
        obtain ⟨p, us, rfl, k1, k2⟩ := hv.lst_of
        obtain ⟨p2, ws, rfl, k3, k4⟩ := hv2.lst_of
        refine ⟨p, p2, us, ws, rfl, ex_l a1.ex k1, ex_l a1.ex k3, q _ B1 H1 a1 g1 (wk_of (walk_zip rfl) ?_ (fun H2 e2 => ⟨ex_l e2 k1, ex_l e2 k3⟩) fun i d B2 H2 x H3 e2 e3 hi y => ?_)⟩
        · unfold zipD
          rw [List.length_zipWith, DqAll.length k2, DqAll.length k4]
        · obtain ⟨T, x', y', rfl, hT, rfl, hx, hy⟩ := y
          obtain ⟨dx, dy, m1, m2, rfl⟩ := zip_get xs ys i d hi
          obtain ⟨d1, n1, n2⟩ := k2.get hx
          obtain ⟨d2, n3, n4⟩ := k4.get hy
          rw [m1] at n1
          rw [m2] at n3
          cases n1
          cases n3
          have gr : Gr B2 H2 (upd B2 T (.tup [x', y'])) (upd H2 T (.tup [x', y'])) := Gr.new e3 hT
          exact ⟨_, gr, .tupN (st_of upd_same) (.cons (dp_mono (e2.trans gr.hg) n2) (.cons (dp_mono (e2.trans gr.hg) n4) .nil)) (zip_no hzo (List.mem_of_getElem? m1) (List.mem_of_getElem? m2))⟩
  · cases h2

/-! ### a, b = data, a new list -/
inductive Ar where
  | d (x : PyData)
  | l (xs : List PyData)
  | q (ds : List (PyData × PyData))
/-- values at hand: data is known, each new list stands apart, where ok lets it -/
def HvAll (K : PySem.W.Frag) (B H : Hp) : (Addr → Prop) → List V → List Ar → Prop
  | _, [], [] => True
  | ok, v :: vs, .d x :: as => Dq K B v x ∧ HvAll K B H ok vs as
  | ok, v :: vs, .l xs :: as => ∃ (p : Addr) (us : List V), v = V.ref p ∧ ok p ∧ H p = some (.lst us) ∧ B p = none ∧ DqAll K B us xs ∧ HvAll K B H (fun b => ok b ∧ b ≠ p) vs as
  | ok, v :: vs, .q ds :: as => ∃ (p : Addr) (o : HO), v = V.ref p ∧ ok p ∧ H p = some o ∧ B p = none ∧ OwnD K B p o ds ∧ HvAll K B H (fun b => ok b ∧ b ≠ p) vs as
  | _, _, _ => False
theorem hv_mono {B H : Hp} : ∀ {vs : List V} {as : List Ar} {ok ok' : Addr → Prop}, (∀ b, ok b → ok' b) → HvAll K B H ok vs as → HvAll K B H ok' vs as
  | [], [], _, _, _, _ => trivial
  | v :: vs, .d x :: as, _, _, h, ⟨h1, h2⟩ => ⟨h1, hv_mono h h2⟩
  | v :: vs, .l xs :: as, _, _, h, ⟨p, us, h1, h2, h3, h4, h5, h6⟩ => ⟨p, us, h1, h p h2, h3, h4, h5, hv_mono (fun b hb => ⟨h b hb.1, hb.2⟩) h6⟩
  | v :: vs, .q xs :: as, _, _, h, ⟨p, us, h1, h2, h3, h4, h5, h6⟩ => ⟨p, us, h1, h p h2, h3, h4, h5, hv_mono (fun b hb => ⟨h b hb.1, hb.2⟩) h6⟩
  | [], _ :: _, _, _, _, h => h.elim
  | _ :: _, [], _, _, _, h => h.elim
def SX (K : PySem.W.Frag) (ta : TA) (f : Dn (List Ar)) : Prop := ∀ (W : Wo), W.K = K → ∀ (σ : L2.St) (e : En) (B H : Hp), At W σ e B H → ∀ as e', f e = some (as, e') →
  ∀ Q : List V → Hp → Prop, (∀ vs B' H', At W σ e' B' H' → Gx σ e B H e' B' H' → HvAll K B' H' (fun b => H b = none) vs as → Q vs H') → ta σ H Q
def xNil : Dn (List Ar) := dK []
def xCons (f : Dn PyData) (g : Dn (List Ar)) : Dn (List Ar) := dBind f fun x => dBind g fun xs => dK (.d x :: xs)
def xConsL (f : Dn (List PyData)) (g : Dn (List Ar)) : Dn (List Ar) := dBind f fun x => dBind g fun xs => dK (.l x :: xs)
theorem sx_nil : SX K tNil xNil := fun W hW σ e B H a as e' h Q q => by
  obtain ⟨rfl, rfl⟩ := dK_some h
  exact q [] B H a (.refl _ _ _ _) trivial
theorem sx_cons {tr : TA} {k : Dn (List Ar)} (h : SE K te f) (hr : SX K tr k) : SX K (tCons te tr) (xCons f k) := fun W hW σ e B H a as e' h' Q q => by
  obtain ⟨x, e1, h1, h2⟩ := dBind_some h'
  obtain ⟨xs, e2, h3, h4⟩ := dBind_some h2
  obtain ⟨rfl, rfl⟩ := dK_some h4
  refine h W hW σ e B H a x e1 h1 _ fun v B1 H1 a1 g1 d1 => hr W hW σ e1 B1 H1 a1 xs e' h3 _ fun vs B2 H2 a2 g2 d2 => ?_
  exact q (v :: vs) B2 H2 a2 (g1.trans g2) ⟨dp_mono g2.go.hg d1, hv_mono (fun b hb => g1.go.dm b hb) d2⟩
theorem sx_consL {tr : TA} {k : Dn (List Ar)} (h : SL K te fl) (hr : SX K tr k) : SX K (tCons te tr) (xConsL fl k) := fun W hW σ e B H a as e' h' Q q => by
  obtain ⟨x, e1, h1, h2⟩ := dBind_some h'
  obtain ⟨xs, e2, h3, h4⟩ := dBind_some h2
  obtain ⟨rfl, rfl⟩ := dK_some h4
  refine h W hW σ e B H a x e1 h1 _ fun r rs B1 H1 a1 g1 r0 hr1 rB d1 => hr W hW σ e1 B1 H1 a1 xs e' h3 _ fun vs B2 H2 a2 g2 d2 => ?_
  have nor : ¬ Ow σ e1 r := fun z => (a.ow (g1.ow r z)).2.1 r0
  have ner : H1 r ≠ none := by rw [hr1]; exact fun z => nomatch z
  exact q (.ref r :: vs) B2 H2 a2 (g1.trans g2) ⟨r, rs, rfl, r0, g2.go.fr r _ nor hr1, g2.go.sp r nor rB ner, dpa_mono g2.go.hg d1, hv_mono (fun b hb => ⟨g1.go.dm b hb, fun z => by subst z; exact ner hb⟩) d2⟩
/-- a new dict -/
def SDq (K : PySem.W.Frag) (te : TE) (f : Dn (List (PyData × PyData))) : Prop := ∀ (W : Wo), W.K = K → ∀ (σ : L2.St) (e : En) (B H : Hp), At W σ e B H → ∀ ds e', f e = some (ds, e') →
  ∀ Q : VK, (∀ p o B' H', At W σ e' B' H' → Gx σ e B H e' B' H' → H p = none → H' p = some o → B' p = none → OwnD K B' p o ds → Q (.ref p) H') → te σ H Q
def xConsQ (f : Dn (List (PyData × PyData))) (g : Dn (List Ar)) : Dn (List Ar) := dBind f fun x => dBind g fun xs => dK (.q x :: xs)
theorem sx_consQ {tr : TA} {k : Dn (List Ar)} {fq : Dn (List (PyData × PyData))} (h : SDq K te fq) (hr : SX K tr k) : SX K (tCons te tr) (xConsQ fq k) := fun W hW σ e B H a as e' h' Q q => by
  obtain ⟨x, e1, h1, h2⟩ := dBind_some h'
  obtain ⟨xs, e2, h3, h4⟩ := dBind_some h2
  obtain ⟨rfl, rfl⟩ := dK_some h4
  refine h W hW σ e B H a x e1 h1 _ fun r rs B1 H1 a1 g1 r0 hr1 rB d1 => hr W hW σ e1 B1 H1 a1 xs e' h3 _ fun vs B2 H2 a2 g2 d2 => ?_
  have nor : ¬ Ow σ e1 r := fun z => (a.ow (g1.ow r z)).2.1 r0
  have ner : H1 r ≠ none := by rw [hr1]; exact fun z => nomatch z
  exact q (.ref r :: vs) B2 H2 a2 (g1.trans g2) ⟨r, rs, rfl, r0, g2.go.fr r _ nor hr1, g2.go.sp r nor rB ner, d1.mono g2.go.hg, hv_mono (fun b hb => ⟨g1.go.dm b hb, fun z => by subst z; exact ner hb⟩) d2⟩
def setQ (i : Nat) (ds : List (PyData × PyData)) (e : En) : Option En := if canSet e i = true then some (e.set i (.q ds)) else none
def sSetsX : List Nat → List Ar → En → Option En
  | [], [], e => some e
  | i :: is, .d d :: ds, e => match setD i d e with
    | some e1 => sSetsX is ds e1
    | none => none
  | i :: is, .l d :: ds, e => match setO i d e with
    | some e1 => sSetsX is ds e1
    | none => none
  | i :: is, .q d :: ds, e => match setQ i d e with
    | some e1 => sSetsX is ds e1
    | none => none
  | _, _, _ => none
def sParX (f : Dn (List Ar)) (is : List Nat) : Ds := fun e => match f e with
  | some (ds, e1) => (sSetsX is ds e1).map .nx
  | none => none
theorem ow_setS {σ : L2.St} {e : En} {i : Nat} {p b : Addr} {xs : Sl} (h : Ow (σ.set i (some (.ref p))) (e.set i xs) b) : Ow σ e b ∨ b = p := by
  obtain ⟨j, s, ys, h1, h2, h3⟩ := h
  rcases set_cases h1 with ⟨rfl, rfl, hl⟩ | ⟨c, h⟩
  · have hl2 : j < (σ.set j (some (V.ref p))).length := (List.getElem?_eq_some_iff.mp h3).1
    rw [List.length_set] at hl2
    rw [List.getElem?_set_self hl2] at h3
    cases h3
    exact .inr rfl
  · rw [List.getElem?_set_ne (Ne.symm c)] at h3
    exact .inl ⟨j, s, ys, h, h2, h3⟩
theorem ow_setO {σ : L2.St} {e : En} {i : Nat} {p b : Addr} {xs : List PyData} (h : Ow (σ.set i (some (.ref p))) (e.set i (.o xs)) b) : Ow σ e b ∨ b = p := ow_setS h
theorem setsX_ok {W : Wo} : ∀ (is : List Nat) (vs : List V) (ds : List Ar) (σ : L2.St) (e e' : En) (B H : Hp) (ok : Addr → Prop), At W σ e B H → HvAll W.K B H ok vs ds → (∀ b, ok b → W.M b ∧ ¬ Ow σ e b) →
    sSetsX is ds e = some e' → is.length = vs.length ∧ ∃ σ', σ' = (is.zip vs).foldl (fun s p => s.set p.1 (some p.2)) σ ∧ At W σ' e' B H
  | [], [], [], σ, e, e', B, H, ok, a, _, _, h => by
    cases h
    exact ⟨rfl, σ, rfl, a⟩
  | i :: is, v :: vs, .d d :: ds, σ, e, e', B, H, ok, a, ⟨hv, ha⟩, hM, h => by
    unfold sSetsX at h
    split at h
    · rename_i e1 h1
      unfold setD at h1
      split at h1
      · rename_i c
        cases h1
        obtain ⟨h0, σ', h2, h3⟩ := setsX_ok is vs ds _ _ e' B H ok (a.setD (can_pn a c) hv) ha (fun b hb => ⟨(hM b hb).1, fun z => (hM b hb).2 (ow_setD z)⟩) h
        exact ⟨congrArg Nat.succ h0, σ', h2, h3⟩
      · cases h1
    · cases h
  | i :: is, v :: vs, .l d :: ds, σ, e, e', B, H, ok, a, ⟨p, us, hv, k1, k2, k3, k4, ha⟩, hM, h => by
    unfold sSetsX at h
    split at h
    · rename_i e1 h1
      unfold setO at h1
      split at h1
      · rename_i c
        cases h1
        subst hv
        obtain ⟨h0, σ', h2, h3⟩ := setsX_ok is vs ds _ _ e' B H _ (a.setO (can_pn a c) (hM p k1).2 (hM p k1).1 k3 k2 k4) ha (fun b hb => ⟨(hM b hb.1).1, fun z => (ow_setO z).elim (hM b hb.1).2 hb.2⟩) h
        exact ⟨congrArg Nat.succ h0, σ', h2, h3⟩
      · cases h1
    · cases h
  | i :: is, v :: vs, .q d :: ds, σ, e, e', B, H, ok, a, ⟨p, us, hv, k1, k2, k3, k4, ha⟩, hM, h => by
    unfold sSetsX at h
    split at h
    · rename_i e1 h1
      unfold setQ at h1
      split at h1
      · rename_i c
        cases h1
        subst hv
        obtain ⟨h0, σ', h2, h3⟩ := setsX_ok is vs ds _ _ e' B H _ (a.setC (so := .q d) (xs := .q d) rfl rfl (can_pn a c) (hM p k1).2 (hM p k1).1 k3 k2 k4) ha (fun b hb => ⟨(hM b hb.1).1, fun z => (ow_setS z).elim (hM b hb.1).2 hb.2⟩) h
        exact ⟨congrArg Nat.succ h0, σ', h2, h3⟩
      · cases h1
    · cases h
  | [], _, _ :: _, σ, e, e', B, H, ok, a, hd, _, h => by cases h
  | _ :: _, _, [], σ, e, e', B, H, ok, a, hd, _, h => by cases h
  | [], _ :: _, [], σ, e, e', B, H, ok, a, hd, _, h => hd.elim
  | _ :: _, [], _ :: _, σ, e, e', B, H, ok, a, hd, _, h => hd.elim
theorem ss_parX {i j : Nat} {fx : Dn (List Ar)} (h : SX K tr fx) : SS K (tPar i j tr) (sParX fx [i, j]) := fun W hW σ e B H a r hr D q => by
  unfold sParX at hr
  split at hr
  · rename_i ds e1 h1
    obtain ⟨e2, h2, rfl⟩ := Option.map_eq_some_iff.mp hr
    refine h W hW σ e B H a ds e1 h1 _ fun vs B1 H1 a1 g1 d1 => ?_
    obtain ⟨h0, _, rfl, k2⟩ := setsX_ok [i, j] vs ds σ e1 e2 B1 H1 _ a1 (hW ▸ d1) (fun b hb => ⟨a.nm b hb, fun z => (a.ow (g1.ow b z)).2.1 hb⟩) h2
    match vs, h0 with
    | [v, w], _ => exact ⟨v, w, rfl, q _ B1 H1 k2 (a.goM g1)⟩
  · cases hr
theorem ss_parX3 {i j l : Nat} {fx : Dn (List Ar)} (h : SX K tr fx) : SS K (tPar3 i j l tr) (sParX fx [i, j, l]) := fun W hW σ e B H a r hr D q => by
  unfold sParX at hr
  split at hr
  · rename_i ds e1 h1
    obtain ⟨e2, h2, rfl⟩ := Option.map_eq_some_iff.mp hr
    refine h W hW σ e B H a ds e1 h1 _ fun vs B1 H1 a1 g1 d1 => ?_
    obtain ⟨h0, _, rfl, k2⟩ := setsX_ok [i, j, l] vs ds σ e1 e2 B1 H1 _ a1 (hW ▸ d1) (fun b hb => ⟨a.nm b hb, fun z => (a.ow (g1.ow b z)).2.1 hb⟩) h2
    match vs, h0 with
    | [v, w, z], _ => exact ⟨v, w, z, rfl, q _ B1 H1 k2 (a.goM g1)⟩
  · cases hr
/-! ### a new list that is handed over to be changed -/
theorem At.stepN {W : Wo} {σ : L2.St} {e : En} {B H : Hp} (a : At W σ e B H) {p : Addr} {B' H' : Hp} (no : ¬ Ow σ e p) (g : Go (fun b => b = p) B H B' H') (x : Ex B' H') : At W σ e B' H' where
  ex := x
  nm := fun b hb => a.nm b (g.dm b hb)
  len := a.len
  dat := fun i y h => by
    obtain ⟨v, k1, k2⟩ := a.dat i y h
    exact ⟨v, k1, dp_mono g.hg k2⟩
  own := fun j t zs h h2 => by
    obtain ⟨q, us', k1, k2, k3, k4, k5⟩ := a.own j t zs h h2
    have qp : ¬ q = p := fun z => by
      subst z
      exact no ⟨j, t, zs, h, h2, k1⟩
    exact ⟨q, us', k1, k2, g.sp q qp k3 (by rw [k4]; exact fun z => nomatch z), g.fr q _ qp k4, cn_mono g.hg k5⟩
  sep := a.sep
  pin := a.pin
def dCallN {α : Type} (n : Nat) (F : List PyData → List PyData → Option (α × List PyData)) (fx fl : Dn (List PyData)) : Dn α := dBind fx fun xs => dBind fl fun ds => if ds.length + 1 = n then dLift ((F xs ds).map Prod.fst) else fun _ => none
theorem go_new {σ : L2.St} {e : En} {p : Addr} {B0 H0 B H B' H' : Hp} (g0 : Go (Ow σ e) B0 H0 B H) (p0 : H0 p = none) (g : Go (fun b => b = p) B H B' H') : Go (Ow σ e) B0 H0 B' H' :=
  ⟨g0.hg.trans g.hg, fun b o hb h => g.fr b o (fun z => by
    subst z
    rw [p0] at h
    cases h) (g0.fr b o hb h), fun b h => g0.dm b (g.dm b h), fun b hb h1 h2 => g.sp b (fun z => by
    subst z
    exact h2 p0) (g0.sp b hb h1 h2) fun z => h2 (g0.dm b z)⟩
theorem se_callN {n : Nat} {F : List PyData → List PyData → Option (PyData × List PyData)} {E : XK} (hx : SL K te fk) (h : SA K tr fl) : SE K (tCall (spM K n F) [] E (tCons te tr)) (dCallN n F fk fl) := fun W hW σ e B H a d e' h' Q q => by
  obtain ⟨xs, e1, h1, k1⟩ := dBind_some h'
  obtain ⟨ds, e2, h2, k2⟩ := dBind_some k1
  split at k2
  · rename_i hl
    obtain ⟨k3, rfl⟩ := dLift_some k2
    obtain ⟨⟨d', ys⟩, hF, rfl⟩ := Option.map_eq_some_iff.mp k3
    refine hx W hW σ e B H a xs e1 h1 _ fun p us B1 H1 a1 g1 p0 hp pB d1 => h W hW σ e1 B1 H1 a1 ds e' h2 _ fun vs B2 H2 a2 g2 d2 => ?_
    have nop : ¬ Ow σ e1 p := fun z => (a.ow (g1.ow p z)).2.1 p0
    refine ⟨B2, p, us, vs, xs, ds, d', ys, by rw [List.append_nil], a2.ex, g2.go.sp p nop pB (by rw [hp]; exact fun z => nomatch z), g2.go.fr p _ nop hp, dpa_mono g2.go.hg d1, hl, d2, hF, fun v us' B3 H3 g3 x3 _ _ _ dv => ?_⟩
    exact q v B3 H3 (a2.stepN (fun z => nop (g2.ow p z)) g3 x3) ⟨go_new (g1.trans g2).go p0 g3, (g1.trans g2).ow⟩ dv
  · cases k2
theorem sl_callN {n : Nat} {F : List PyData → List PyData → Option (List PyData × List PyData)} {E : XK} (hx : SL K te fk) (h : SA K tr fl) : SL K (tCall (spML K n F) [] E (tCons te tr)) (dCallN n F fk fl) := fun W hW σ e B H a d e' h' Q q => by
  obtain ⟨xs, e1, h1, k1⟩ := dBind_some h'
  obtain ⟨ds, e2, h2, k2⟩ := dBind_some k1
  split at k2
  · rename_i hl
    obtain ⟨k3, rfl⟩ := dLift_some k2
    obtain ⟨⟨d', ys⟩, hF, rfl⟩ := Option.map_eq_some_iff.mp k3
    refine hx W hW σ e B H a xs e1 h1 _ fun p us B1 H1 a1 g1 p0 hp pB d1 => h W hW σ e1 B1 H1 a1 ds e' h2 _ fun vs B2 H2 a2 g2 d2 => ?_
    have nop : ¬ Ow σ e1 p := fun z => (a.ow (g1.ow p z)).2.1 p0
    refine ⟨B2, p, us, vs, xs, ds, d', ys, by rw [List.append_nil], a2.ex, g2.go.sp p nop pB (by rw [hp]; exact fun z => nomatch z), g2.go.fr p _ nop hp, dpa_mono g2.go.hg d1, hl, d2, hF, fun r rs us' B3 H3 g3 x3 _ _ _ r0 hr rB rd => ?_⟩
    exact q r rs B3 H3 (a2.stepN (fun z => nop (g2.ow p z)) g3 x3) ⟨go_new (g1.trans g2).go p0 g3, (g1.trans g2).ow⟩ ((g1.trans g2).go.dm r r0) hr rB rd
  · cases k2
/-- the law: a script of at most 63 ints -/
def spLaw (K : PySem.W.Frag) : Sp := fun vs H Q _ => ∃ (a : Addr) (ns : List Int), vs = [V.ref a] ∧ SqL K H a (ns.map V.int) ∧ ns.length ≤ 63 ∧ ∀ H', Q (.bl true) H'
theorem body_law {t : TS} {F : Ds} {N : List Str} {n : Nat} {H : Hp} {vs : List V} {Q : VK} {E : XK} (h : SS K t F) (hn : N.length = 1 + n) (ht : ∀ ns : List Int, ns.length ≤ 63 → fnD n F [.list (ns.map .int)] = some (.bool true)) (hs : spLaw K vs H Q E) : t { nx := fun _ H' => Q .non H', rt := Q } (L2.start N vs) H := by
  obtain ⟨a, ns, rfl, hS, hl, q⟩ := hs
  refine body_F (E := E) h hn ⟨H, [.list (ns.map .int)], .bool true, Ex.refl H, rfl, .one (.lst hS (DqAll.of_ints ns)), ht ns hl, fun v B' H' g hv => ?_⟩
  rw [hv.bl_of]
  exact q H'
end
end Fd
end

section
set_option Elab.async false
set_option linter.all false
set_option maxRecDepth 100000
set_option maxHeartbeats 1000000
/-! Walks by meaning 10: the rules, the constants given. -/
variable [Fd.Uw]
namespace Fd
open PySem PySem.Spec PyProof.Rows L2 Evl Tb
section
variable {X : Cx} {K : PySem.W.Frag}
theorem ok_addU (h : X.K = K) : OpR X (binaryOp .Add) (rAddU K) := h ▸ op_addU
theorem ok_mulU (h : X.K = K) : OpR X (binaryOp .Mult) (rMulU K) := h ▸ op_mulU
theorem ok_eqD (h : X.K = K) (hu : X.A.units + 64 < cLine) : OpR X (compareOp .Eq) (rEqD K) := h ▸ op_eqD hu
theorem ok_neD (h : X.K = K) (hu : X.A.units + 64 < cLine) : OpR X (compareOp .NotEq) (rNeD K) := h ▸ op_neD hu
theorem ok_inD (h : X.K = K) (hu : X.A.units + 65 < cLine) : OpR X (compareOp .In) (rInD K) := h ▸ op_inD hu
theorem ok_notInD (h : X.K = K) (hu : X.A.units + 65 < cLine) : OpR X (compareOp .NotIn) (rNotInD K) := h ▸ op_notInD hu
theorem ixk_seq (h : X.K = K) : IxR X (rIx K) := h ▸ ix_seq
theorem slk_sliceU (h : X.K = K) : SlR X (rSlU K) := h ▸ sl_sliceU
theorem ck_lenU (h : X.K = K) : CallR X (.builtin "len") (rLenU K) := h ▸ call_lenU
theorem ck_tupU (h : X.K = K) : CallR X (.type "tuple") (rTupU K) := h ▸ call_tupU
theorem ck_lstU (h : X.K = K) : CallR X (.type "list") (rLstU K) := call_lstU h
theorem ck_sum (h : X.K = K) (hc : X.calm = true) : CallR X (.builtin "sum") (rSum K) := h ▸ cr_sum hc
theorem ck_max (h : X.K = K) (hc : X.calm = true) : CallR X (.builtin "max") (rMax K) := h ▸ cr_max hc
theorem ck_min (h : X.K = K) (hc : X.calm = true) : CallR X (.builtin "min") (rMin K) := h ▸ cr_min hc
theorem ck_all (h : X.K = K) (hc : X.calm = true) : CallR X (.builtin "all") (rAll K) := h ▸ cr_all hc
theorem ck_any (h : X.K = K) (hc : X.calm = true) : CallR X (.builtin "any") (rAny K) := h ▸ cr_any hc
theorem ck_sortedI (h : X.K = K) : CallR X (.builtin "sorted") (rSortedI K) := h ▸ cr_sortedI
theorem ck_maxDfU (h : X.K = K) (hc : X.calm = true) (hu : X.A.units + 64 < cLine) : CallRK X (.builtin "max") [Str.ofString "default"] (rMaxDfU K) := h ▸ cr_maxDfU hc hu
theorem ck_isi (h : X.K = K) : CallR X (.builtin "isinstance") (rIsi K) := h ▸ call_isi
theorem ck_isiT (h : X.K = K) : CallR X (.builtin "isinstance") (rIsiT K) := h ▸ call_isiT
theorem ptk_truU (h : X.K = K) {a : Expr} {ta : TE} (ha : PE X a ta) (he : ∀ whole, isTrue a X.env whole = (do let v ← whole; standAt a.pos; holding [v] (truthy v)) := by intro _; rfl) : PT X a (tTruU K ta) := h ▸ pt_truU ha he
theorem mk_extU (h : X.K = K) : MtM X "list.extend" (rExtU K) := h ▸ mt_extU
theorem pgk_row (h : X.K = K) {pos : Pos} {es : List Expr} {k : Nat} {t : TGs} {n : Nat} (hc : X.calm = true) (hg : PGs X es t)
    (hn : (assignEach es X.env).length = n := by rfl) (hst : (assignEach es X.env).findIdx? (·.1) = none := by rfl) : PG X (.Tuple es k pos) (gRow K n t) := h ▸ pg_row hc hg hn hst
theorem pik_row (h : X.K = K) {tg l : Expr} {tl : TE} (hl : PE X l tl) : PI X tg l (iRow K tl) := h ▸ pi_row hl
end
/-! ### a list of one's own that is compared -/
def isScal : PyData → Bool
  | .none => true
  | .bool _ => true
  | .int _ => true
  | .str _ => true
  | _ => false
theorem scal_dp {K : PySem.W.Frag} {B B' : Hp} {v : V} {d : PyData} (h : isScal d = true) (hd : Dq K B v d) : Dq K B' v d := by
  cases hd with
  | non => exact .non
  | bl b => exact .bl b
  | int i => exact .int i
  | str x => exact .str x
  | lst _ _ => cases h
  | tup _ _ => cases h
  | dic _ _ _ => cases h
def dOpV (F : PyData → PyData → Option PyData) (i : Nat) (g : Dn PyData) : Dn PyData := fun e => match ownL e i with
  | none => dOp F (dVar i) g e
  | some _ => match g e with
    | none => none
    | some (y, e1) => match ownL e1 i with
      | none => none
      | some xs => match F (.list xs) y with
        | none => none
        | some z => if isScal z = true then some (z, e1) else none
def dOpW (F : PyData → PyData → Option PyData) (f : Dn PyData) (j : Nat) : Dn PyData := fun e => match f e with
  | none => none
  | some (x, e1) => match ownL e1 j with
    | none => dBind (dVar j) (fun y => dLift (F x y)) e1
    | some ys => match F x (.list ys) with
      | none => none
      | some z => if isScal z = true then some (z, e1) else none
section
variable {K : PySem.W.Frag} {ta tb : TE} {f g : Dn PyData} {r : R2} {F : PyData → PyData → Option PyData}
theorem gr_back {B H G H2 : Hp} {p : Addr} {us : List V} (x : Ex B H) (h : Gr (upd B p (.lst us)) H G H2) : Gr B H B H2 := .ex x h.h12
theorem ex_put {B H : Hp} {p : Addr} {us : List V} (x : Ex B H) (h : H p = some (.lst us)) : Ex (upd B p (.lst us)) H := fun b o hb => by
  by_cases c : b = p
  · subst c
    rw [upd_same] at hb
    cases hb
    exact h
  · rw [upd_ne c] at hb
    exact x b o hb
theorem se_opV {i : Nat} (hr : ∀ B x y z, F x y = some z → RD K r x y B z) (hb : SE K tb g) : SE K (tOp r (tVar i) tb) (dOpV F i g) := fun W hW σ e B H a d e' h Q q => by
  unfold dOpV at h
  split at h
  · exact se_op hr se_var hb W hW σ e B H a d e' h Q q
  rename_i xs0 ho
  split at h
  · cases h
  rename_i y e1 h1
  split at h
  · cases h
  rename_i xs ho1
  split at h
  · cases h
  rename_i z hF
  by_cases hz : isScal z = true
  case neg =>
    rw [if_neg hz] at h
    cases h
  rw [if_pos hz] at h
  cases h
  obtain ⟨s0, i0, o0⟩ := ownL_some ho
  obtain ⟨s1, i1, o1⟩ := ownL_some ho1
  obtain ⟨p, us0, k1, _⟩ := own_at a i0 o0
  refine ⟨.ref p, k1, hb W hW σ e B H a _ e' h1 _ fun w B1 H1 a1 g1 d1 => ?_⟩
  obtain ⟨p', us, k2, k3, k4, k5⟩ := own_at a1 i1 o1
  rw [k1] at k2
  cases k2
  rw [hW] at k5
  refine hr (upd B1 p (.lst us)) _ _ _ hF _ _ H1 (ex_put a1.ex k4) (.lst (sq_of upd_same) (dpa_mono (Ex.new k3) k5)) (dp_mono (Ex.new k3) d1) Q fun v G H3 g3 hd => ?_
  have gb := gr_back a1.ex g3
  exact q v B1 H3 (a1.gr gb) (g1.trans (gx_gr gb)) (scal_dp hz hd)
theorem se_opW {j : Nat} (hr : ∀ B x y z, F x y = some z → RD K r x y B z) (ha : SE K ta f) : SE K (tOp r ta (tVar j)) (dOpW F f j) := fun W hW σ e B H a d e' h Q q => by
  unfold dOpW at h
  split at h
  · cases h
  rename_i x e1 h1
  split at h
  · have h2 : dOp F f (dVar j) e = some (d, e') := by
      unfold dOp
      conv => lhs; unfold dBind
      rw [h1]
      exact h
    exact se_op hr ha se_var W hW σ e B H a d e' h2 Q q
  rename_i ys ho
  split at h
  · cases h
  rename_i z hF
  by_cases hz : isScal z = true
  case neg =>
    rw [if_neg hz] at h
    cases h
  rw [if_pos hz] at h
  cases h
  obtain ⟨s0, i0, o0⟩ := ownL_some ho
  refine ha W hW σ e B H a _ e' h1 _ fun w B1 H1 a1 g1 d1 => ?_
  obtain ⟨p, us, k2, k3, k4, k5⟩ := own_at a1 i0 o0
  rw [hW] at k5
  refine ⟨.ref p, k2, hr (upd B1 p (.lst us)) _ _ _ hF _ _ H1 (ex_put a1.ex k4) (dp_mono (Ex.new k3) d1) (.lst (sq_of upd_same) (dpa_mono (Ex.new k3) k5)) Q fun v G H3 g3 hd => ?_⟩
  have gb := gr_back a1.ex g3
  exact q v B1 H3 (a1.gr gb) (g1.trans (gx_gr gb)) (scal_dp hz hd)
theorem se_eqV {i : Nat} (hb : SE K tb g) : SE K (tOp (rEqD K) (tVar i) tb) (dOpV eqD i g) := se_opV (fun B => rf_eq) hb
theorem se_neV {i : Nat} (hb : SE K tb g) : SE K (tOp (rNeD K) (tVar i) tb) (dOpV neD i g) := se_opV (fun B => rf_ne) hb
theorem se_eqW {j : Nat} (ha : SE K ta f) : SE K (tOp (rEqD K) ta (tVar j)) (dOpW eqD f j) := se_opW (fun B => rf_eq) ha
theorem se_neW {j : Nat} (ha : SE K ta f) : SE K (tOp (rNeD K) ta (tVar j)) (dOpW neD f j) := se_opW (fun B => rf_ne) ha
theorem se_inW {j : Nat} (ha : SE K ta f) : SE K (tOp (rInD K) ta (tVar j)) (dOpW (inD false) f j) := se_opW (fun B => rf_in) ha
theorem se_notInW {j : Nat} (ha : SE K ta f) : SE K (tOp (rNotInD K) ta (tVar j)) (dOpW (inD true) f j) := se_opW (fun B => rf_notIn) ha
end
end Fd
end

section
set_option Elab.async false
set_option linter.all false
set_option maxRecDepth 100000
set_option maxHeartbeats 1000000
/-! Walks by meaning 11: how meanings are reckoned with. -/
variable [Fd.Uw]
namespace Fd
open PySem PySem.Spec PyProof.Rows L2 Evl Tb

@[simp] theorem dK_e {α : Type} (x : α) (e : En) : dK x e = some (x, e) := rfl
@[simp] theorem sNext_e (e : En) : (fun e : En => some (Rs.nx e)) e = some (.nx e) := rfl
section
variable {α β : Type} {f g k : Dn PyData} {fl fk : Dn (List PyData)} {c c2 : Dn Bool} {F G : PyData → PyData → Option PyData} {e : En} {A C : Ds}
@[simp] theorem dBind_e {f : Dn α} {g : α → Dn β} : dBind f g e = (match f e with
  | some (x, e1) => g x e1
  | none => none) := rfl
@[simp] theorem dLift_e {o : Option α} : dLift o e = (match o with
  | some x => some (x, e)
  | none => none) := rfl
@[simp] theorem dVar_e {i : Nat} : dVar i e = (match e[i]? with
  | some (.d x) => some (x, e)
  | some (.o xs) => some (.list xs, e.set i (.d (.list xs)))
  | some (.q xs) => some (.dict xs, e.set i (.d (.dict xs)))
  | _ => none) := rfl
@[simp] theorem dOp_e : dOp F f g e = dBind f (fun x => dBind g fun y => dLift (F x y)) e := rfl
@[simp] theorem dUn_e {F : PyData → Option PyData} : dUn F f e = dBind f (fun x => dLift (F x)) e := rfl
@[simp] theorem dCons_e : dCons f fl e = dBind f (fun x => dBind fl fun xs => dK (x :: xs)) e := rfl
@[simp] theorem dIf_e {f g : Dn α} : dIf c f g e = dBind c (fun b => if b = true then f else g) e := rfl
@[simp] theorem dAnd_e : dAnd f g e = dBind f (fun x => match x with
  | .bool true => dBind g fun y => match y with
    | .bool b => dK (.bool b)
    | _ => fun _ => none
  | .bool false => dK (.bool false)
  | _ => fun _ => none) e := rfl
@[simp] theorem dOr_e : dOr f g e = dBind f (fun x => match x with
  | .bool false => dBind g fun y => match y with
    | .bool b => dK (.bool b)
    | _ => fun _ => none
  | .bool true => dK (.bool true)
  | _ => fun _ => none) e := rfl
@[simp] theorem dNot_e : dNot f e = dBind f (fun x => match x with
  | .bool b => dK (.bool (!b))
  | _ => fun _ => none) e := rfl
@[simp] theorem dTest_e : dTest f e = dBind f (fun x => match x with
  | .bool b => dK b
  | _ => fun _ => none) e := rfl
@[simp] theorem dAndT_e : dAndT c c2 e = dBind c (fun b => if b = true then c2 else dK false) e := rfl
@[simp] theorem dOrT_e : dOrT c c2 e = dBind c (fun b => if b = true then dK true else c2) e := rfl
@[simp] theorem dNotT_e : dNotT c e = dBind c (fun b => dK (!b)) e := rfl
@[simp] theorem dTru_e : dTru f e = dBind f (fun x => dLift (truD x)) e := rfl
@[simp] theorem dFz_e : dFz fl e = dBind fl (fun ds => dK (.list ds)) e := rfl
@[simp] theorem dTup_e : dTup fl e = dBind fl (fun ds => if small ds = true then dK (.tuple ds) else fun _ => none) e := rfl
@[simp] theorem dLst_e : dLst fl e = dBind fl (fun ds => if small ds = true then dK ds else fun _ => none) e := rfl
@[simp] theorem dItems_e : dItems f e = dBind f (fun d => dLift (itemsOf d)) e := rfl
@[simp] theorem dCall_e {n : Nat} {F : List PyData → Option PyData} {dds : List PyData} : dCall n F dds fl e = dBind fl (fun ds => if (ds ++ dds).length = n then dLift (F (ds ++ dds)) else fun _ => none) e := rfl
@[simp] theorem dCallL_e {n : Nat} {F : List PyData → Option (List PyData)} {dds : List PyData} : dCallL n F dds fl e = dBind fl (fun ds => if (ds ++ dds).length = n then dLift (F (ds ++ dds)) else fun _ => none) e := rfl
@[simp] theorem dPart_e : dPart f e = dBind f (fun x => match x with
  | .int i => dK (some i)
  | _ => fun _ => none) e := rfl
@[simp] theorem dRg1_e : dRg1 fl e = dBind fl (fun ds => match ds with
  | [.int n] => if big n = true then dK (rgD 0 n.toNat) else fun _ => none
  | _ => fun _ => none) e := rfl
@[simp] theorem dRg2_e : dRg2 fl e = dBind fl (fun ds => match ds with
  | [.int i, .int j] => if (big i && big j) = true then dK (rgD i (j - i).toNat) else fun _ => none
  | _ => fun _ => none) e := rfl
@[simp] theorem dEnum_e : dEnum fl e = dBind fl (fun ds => match ds with
  | [d] => dLift ((itemsOf d).map (enD 0))
  | _ => fun _ => none) e := rfl
@[simp] theorem dChain_e : dChain F G f g k e = dBind f (fun x => dBind g fun y => dBind (dLift (F x y)) fun z => match z with
  | .bool true => dBind k fun w => dLift (G y w)
  | .bool false => dK (.bool false)
  | _ => fun _ => none) e := rfl
@[simp] theorem sSeq_e : sSeq A C e = (match A e with
  | some (.nx e1) => C e1
  | r => r) := rfl
@[simp] theorem sIf_e : sIf c A C e = (match c e with
  | some (b, e1) => if b = true then A e1 else C e1
  | none => none) := rfl
@[simp] theorem sAsg_e {g : PyData → En → Option En} : sAsg f g e = (match f e with
  | some (d, e1) => (g d e1).map .nx
  | none => none) := rfl
@[simp] theorem sAsgO_e {i : Nat} : sAsgO fl i e = (match fl e with
  | some (d, e1) => (setO i d e1).map .nx
  | none => none) := rfl
@[simp] theorem sRet_e : sRet f e = (f e).map fun r => .rt r.1 r.2 := rfl
@[simp] theorem sRetL_e : sRetL fl e = (fl e).map fun r => .rl r.1 r.2 := rfl
@[simp] theorem sDrop_e : sDrop f e = (f e).map fun r => .nx r.2 := rfl
@[simp] theorem sFor_e {g : PyData → En → Option En} : sFor fl g A e = (match fl e with
  | some (ds, e1) => runFor g A ds e1
  | none => none) := rfl
@[simp] theorem dName_e {i : Nat} {d : PyData} : dName i d e = setD i d e := rfl
@[simp] theorem dNil_e : dNil [] e = some e := rfl
@[simp] theorem dGs_e {f : PyData → En → Option En} {g : List PyData → En → Option En} {d : PyData} {ds : List PyData} : dGs f g (d :: ds) e = (match f d e with
  | some e1 => g ds e1
  | none => none) := rfl
@[simp] theorem dRow_e {n : Nat} {g : List PyData → En → Option En} {d : PyData} : dRow n g d e = (match itemsOf d with
  | some xs => if xs.length = n then g xs e else none
  | none => none) := rfl
end
@[simp] theorem items_rowsD (b : Bool) (ds : List PyData) : itemsOf (rows b ds) = some ds := by cases b <;> rfl
@[simp] theorem items_list (ds : List PyData) : itemsOf (.list ds) = some ds := rfl
@[simp] theorem items_tuple (ds : List PyData) : itemsOf (.tuple ds) = some ds := rfl
@[simp] theorem len_rows (b : Bool) (ds : List PyData) : lenD [rows b ds] = some (.int ds.length) := by cases b <;> rfl
@[simp] theorem len_list (ds : List PyData) : lenD [.list ds] = some (.int ds.length) := rfl
@[simp] theorem len_tuple (ds : List PyData) : lenD [.tuple ds] = some (.int ds.length) := rfl
theorem ix_rows (b : Bool) (ds : List PyData) (i : Int) : ixD (rows b ds) (.int i) = atI ds i := by cases b <;> rfl
@[simp] theorem addD_int (i j : Int) : addD (.int i) (.int j) = some (.int (i + j)) := rfl
@[simp] theorem subD_int (i j : Int) : subD (.int i) (.int j) = some (.int (i - j)) := rfl
@[simp] theorem ltD_int (i j : Int) : ltD (.int i) (.int j) = some (.bool (decide (i < j))) := rfl
@[simp] theorem gtD_int (i j : Int) : gtD (.int i) (.int j) = some (.bool (decide (j < i))) := rfl
@[simp] theorem leD_int (i j : Int) : leD (.int i) (.int j) = some (.bool (decide (i ≤ j))) := rfl
@[simp] theorem geD_int (i j : Int) : geD (.int i) (.int j) = some (.bool (decide (j ≤ i))) := rfl
@[simp] theorem truD_bool (b : Bool) : truD (.bool b) = some b := rfl
@[simp] theorem notNon_int (i : Int) : notNonD (.int i) .none = some (.bool true) := rfl
@[simp] theorem notNon_none : notNonD .none .none = some (.bool false) := rfl
@[simp] theorem isNon_int (i : Int) : isNonD' (.int i) .none = some (.bool false) := rfl
@[simp] theorem isNon_none : isNonD' .none .none = some (.bool true) := rfl
@[simp] theorem negD_int (i : Int) : negD (.int i) = some (.int (-i)) := rfl
/-- a slot that may be set -/
def Fr (s : Sl) : Prop := s = .no ∨ ∃ x, s = .d x
theorem Fr.no : Fr .no := .inl rfl
theorem Fr.d {x : PyData} : Fr (.d x) := .inr ⟨x, rfl⟩
theorem at_nat {α : Type} {ds : List α} {i : Nat} {d : α} (h : ds[i]? = some d) : atI ds (i : Int) = some d := by
  have hi := (List.getElem?_eq_some_iff.mp h).1
  unfold atI ixN
  rw [if_pos (by omega), if_pos (by omega)]
  simpa using h
theorem at_0 {α : Type} (x : α) (xs : List α) : atI (x :: xs) 0 = some x := at_nat (i := 0) rfl
theorem at_1 {α : Type} (x y : α) (xs : List α) : atI (x :: y :: xs) 1 = some y := at_nat (i := 1) rfl
theorem at_2 {α : Type} (x y z : α) (xs : List α) : atI (x :: y :: z :: xs) 2 = some z := at_nat (i := 2) rfl
/-! ### is it an int, a row -/
def wholeD : PyData → Bool
  | .int _ => true
  | _ => false
def rowD : PyData → Bool
  | .list _ => true
  | .tuple _ => true
  | _ => false
@[simp] theorem isDi_none : isDi .none = false := rfl
@[simp] theorem isDi_bool (b : Bool) : isDi (.bool b) = false := rfl
@[simp] theorem isDi_int (i : Int) : isDi (.int i) = false := rfl
@[simp] theorem isDi_str (x : Str) : isDi (.str x) = false := rfl
@[simp] theorem isDi_list (xs : List PyData) : isDi (.list xs) = false := rfl
@[simp] theorem isDi_tuple (xs : List PyData) : isDi (.tuple xs) = false := rfl
@[simp] theorem isi_int (d : PyData) : isiD "int" d = if isDi d = true then none else some (.bool (match d with | .int _ => true | .bool _ => true | _ => false)) := by
  unfold isiD
  rw [kit_int]
  rfl
@[simp] theorem isi_bool (d : PyData) : isiD "bool" d = if isDi d = true then none else some (.bool (match d with | .bool _ => true | _ => false)) := by
  unfold isiD
  rw [kit_bool]
  rfl
@[simp] theorem isi_list (d : PyData) : isiD "list" d = if isDi d = true then none else some (.bool (match d with | .list _ => true | _ => false)) := by
  unfold isiD
  rw [kit_list]
  rfl
@[simp] theorem isi_tuple (d : PyData) : isiD "tuple" d = if isDi d = true then none else some (.bool (match d with | .tuple _ => true | _ => false)) := by
  unfold isiD
  rw [kit_tuple]
  rfl
@[simp] theorem isi_str (d : PyData) : isiD "str" d = if isDi d = true then none else some (.bool (match d with | .str _ => true | _ => false)) := by
  unfold isiD
  rw [kit_str]
  rfl
@[simp] theorem isi2_row (d : PyData) : isi2D "list" "tuple" d = if isDi d = true then none else some (.bool (rowD d)) := by
  unfold isi2D
  rw [kit_list, kit_tuple]
  cases d <;> rfl

/-! ### loops -/
theorem runFor_inv {g : PyData → En → Option En} {b : Ds} (P : Nat → En → Prop) : ∀ (ds : List PyData) (n : Nat) (e : En), P n e →
    (∀ i d e, ds[i]? = some d → P (n + i) e → ∃ e1 e2, g d e = some e1 ∧ (b e1 = some (.nx e2) ∨ b e1 = some (.ct e2)) ∧ P (n + i + 1) e2) → ∃ e', runFor g b ds e = some (.nx e') ∧ P (n + ds.length) e'
  | [], n, e, h, _ => ⟨e, rfl, h⟩
  | d :: ds, n, e, h, hs => by
    obtain ⟨e1, e2, h1, h2, h3⟩ := hs 0 d e rfl h
    obtain ⟨e', k1, k2⟩ := runFor_inv P ds (n + 1) e2 h3 fun i d' e'' hi hp => by
      have z := hs (i + 1) d' e'' hi (by rw [show n + (i + 1) = n + 1 + i by omega]; exact hp)
      rw [show n + (i + 1) + 1 = n + 1 + i + 1 by omega] at z
      exact z
    refine ⟨e', ?_, ?_⟩
    · unfold runFor
      rw [h1]
      rcases h2 with h2 | h2 <;> simp only [h2] <;> exact k1
    · rw [List.length_cons, show n + (ds.length + 1) = n + 1 + ds.length by omega]
      exact k2
/-- a loop that keeps a property of the slots, and never ends early -/
theorem runFor_all {g : PyData → En → Option En} {b : Ds} (P : En → Prop) {ds : List PyData} {e : En} (h0 : P e) (hs : ∀ d ∈ ds, ∀ e, P e → ∃ e1 e2, g d e = some e1 ∧ (b e1 = some (.nx e2) ∨ b e1 = some (.ct e2)) ∧ P e2) : ∃ e', runFor g b ds e = some (.nx e') ∧ P e' := by
  obtain ⟨e', h1, h2⟩ := runFor_inv (g := g) (b := b) (fun _ => P) ds 0 e h0 fun i d e hi hp => hs d (List.mem_of_getElem? hi) e hp
  exact ⟨e', h1, h2⟩
theorem runFor_cons_nx {g : PyData → En → Option En} {b : Ds} {d : PyData} {ds : List PyData} {e e1 e2 : En} (h1 : g d e = some e1) (h2 : b e1 = some (.nx e2)) : runFor g b (d :: ds) e = runFor g b ds e2 := by
  conv => lhs; unfold runFor
  rw [h1]
  simp only [h2]
theorem runFor_cons_ct {g : PyData → En → Option En} {b : Ds} {d : PyData} {ds : List PyData} {e e1 e2 : En} (h1 : g d e = some e1) (h2 : b e1 = some (.ct e2)) : runFor g b (d :: ds) e = runFor g b ds e2 := by
  conv => lhs; unfold runFor
  rw [h1]
  simp only [h2]
theorem runFor_cons_rt {g : PyData → En → Option En} {b : Ds} {d z : PyData} {ds : List PyData} {e e1 e2 : En} (h1 : g d e = some e1) (h2 : b e1 = some (.rt z e2)) : runFor g b (d :: ds) e = some (.rt z e2) := by
  conv => lhs; unfold runFor
  rw [h1]
  simp only [h2]
theorem whileN_inv {c : Dn Bool} {b : Ds} (P : Nat → En → Prop) : ∀ (n : Nat) (e : En), P n e → (∀ n e, P n e → (∃ e1, c e = some (false, e1)) ∨ ∃ e1 e2 m, c e = some (true, e1) ∧ (b e1 = some (.nx e2) ∨ b e1 = some (.ct e2)) ∧ m < n ∧ P m e2) → ∃ m e0 e1, P m e0 ∧ c e0 = some (false, e1) ∧ sWhile c b e = some (.nx e1) := by
  have key : ∀ (n : Nat), ∀ m, m ≤ n → ∀ (e : En), P m e → (∀ n e, P n e → (∃ e1, c e = some (false, e1)) ∨ ∃ e1 e2 m, c e = some (true, e1) ∧ (b e1 = some (.nx e2) ∨ b e1 = some (.ct e2)) ∧ m < n ∧ P m e2) → ∃ k m e0 e1, P m e0 ∧ c e0 = some (false, e1) ∧ whileN c b k e = some (.nx e1) := by
    intro n
    induction n with
    | zero =>
      intro m hm e hp hs
      rcases hs m e hp with ⟨e1, h1⟩ | ⟨e1, e2, m', _, _, h, _⟩
      · exact ⟨1, m, e, e1, hp, h1, by simp only [whileN, h1]⟩
      · omega
    | succ n ih =>
      intro m hm e hp hs
      rcases hs m e hp with ⟨e1, h1⟩ | ⟨e1, e2, m', h1, h2, h3, h4⟩
      · exact ⟨1, m, e, e1, hp, h1, by simp only [whileN, h1]⟩
      · obtain ⟨k, m2, e0, e3, p1, p2, p3⟩ := ih m' (by omega) e2 h4 hs
        refine ⟨k + 1, m2, e0, e3, p1, p2, ?_⟩
        rcases h2 with h2 | h2 <;> simp only [whileN, h1, h2] <;> exact p3
  intro n e hp hs
  obtain ⟨k, m, e0, e1, p1, p2, p3⟩ := key n n (Nat.le_refl _) e hp hs
  exact ⟨m, e0, e1, p1, p2, sWhile_eq p3⟩

/-! ### comprehensions whose parts only read -/
theorem runLc_map {g : PyData → En → Option En} {t : Dn Bool} {f : Dn PyData} {vs : List Nat} {e : En} (c : PyData → Option PyData) : ∀ {ds : List PyData},
    (∀ d ∈ ds, ∃ e1 e2, g d e = some e1 ∧ (match c d with
      | none => t e1 = some (false, e2) ∧ wipeE e2 vs = e
      | some y => ∃ e3, t e1 = some (true, e2) ∧ f e2 = some (y, e3) ∧ wipeE e3 vs = e)) → runLc g t f vs ds e = some (ds.filterMap c, e)
  | [], _ => rfl
  | d :: ds, h => by
    obtain ⟨e1, e2, h1, h2⟩ := h d (List.mem_cons_self ..)
    have ih := runLc_map c (ds := ds) fun d hd => h d (List.mem_cons_of_mem _ hd)
    unfold runLc
    rw [h1]
    cases hc : c d with
    | none =>
      rw [hc] at h2
      obtain ⟨h2, h3⟩ := h2
      simp only [h2, h3, ih, List.filterMap_cons, hc]
    | some y =>
      rw [hc] at h2
      obtain ⟨e3, h2, h3, h4⟩ := h2
      simp only [h2, h3, h4, ih, List.filterMap_cons, hc]
theorem dLc_map {it : Dn (List PyData)} {g : PyData → En → Option En} {t : Dn Bool} {f : Dn PyData} {vs : List Nat} {e e0 : En} {ds : List PyData} (c : PyData → Option PyData) (hi : it e0 = some (ds, e)) (hf : vsFree e vs = true) (hl : ds.length ≤ 40000) (hr : restE e (wipeE e vs) vs = e)
    (h : ∀ d ∈ ds, ∃ e1 e2, g d (wipeE e vs) = some e1 ∧ (match c d with
      | none => t e1 = some (false, e2) ∧ wipeE e2 vs = wipeE e vs
      | some y => ∃ e3, t e1 = some (true, e2) ∧ f e2 = some (y, e3) ∧ wipeE e3 vs = wipeE e vs)) : dLc it g t f vs e0 = some (ds.filterMap c, e) := by
  unfold dLc
  rw [hi]
  have hl' : fewer ds = true := decide_eq_true hl
  simp only [hf, hl', Bool.and_self, if_true, runLc_map c h, hr]

/-! ### data that is compared -/
/-- none, bools, ints, and rows of them, n deep -/
def okD : Nat → PyData → Bool
  | _, .none => true
  | _, .bool _ => true
  | _, .int _ => true
  | n + 1, .list xs => xs.all (okD n)
  | n + 1, .tuple xs => xs.all (okD n)
  | _, _ => false
theorem okD_out : ∀ (n : Nat) (d : PyData), okD n d = true → d.canLay0 = true ∧ d.depth ≤ n ∧ PyData.eqv d d = true := by
  intro n
  induction n with
  | zero =>
    intro d h
    cases d <;> first | (exfalso; exact Bool.noConfusion (show false = true from h)) | (refine ⟨?_, ?_, ?_⟩ <;> simp [PyData.canLay0, PyData.depth, PyData.eqv])
  | succ n ih =>
    have all : ∀ xs : List PyData, xs.all (okD n) = true → PyData.canLayAll0 xs = true ∧ PyData.depthAll xs ≤ n ∧ PyData.eqvAll xs xs = true := fun xs => by
      induction xs with
      | nil => exact fun _ => by simp [PyData.canLayAll0, PyData.depthAll, PyData.eqvAll]
      | cons x xs ihx =>
        intro h
        rw [List.all_cons, Bool.and_eq_true] at h
        obtain ⟨h1, h2, h3⟩ := ih x h.1
        obtain ⟨i1, i2, i3⟩ := ihx h.2
        refine ⟨by simp [PyData.canLayAll0, h1, i1], ?_, by simp [PyData.eqvAll, h3, i3]⟩
        simp only [PyData.depthAll]
        omega
    intro d h
    cases d with
    | none => refine ⟨?_, ?_, ?_⟩ <;> simp [PyData.canLay0, PyData.depth, PyData.eqv]
    | bool b => refine ⟨?_, ?_, ?_⟩ <;> simp [PyData.canLay0, PyData.depth, PyData.eqv]
    | int i => refine ⟨?_, ?_, ?_⟩ <;> simp [PyData.canLay0, PyData.depth, PyData.eqv]
    | str x => exact Bool.noConfusion (show false = true from h)
    | dict x => exact Bool.noConfusion (show false = true from h)
    | list xs =>
      obtain ⟨i1, i2, i3⟩ := all xs h
      refine ⟨by simp [PyData.canLay0, i1], ?_, by simp [PyData.eqv, i3]⟩
      simp only [PyData.depth]
      omega
    | tuple xs =>
      obtain ⟨i1, i2, i3⟩ := all xs h
      refine ⟨by simp [PyData.canLay0, i1], ?_, by simp [PyData.eqv, i3]⟩
      simp only [PyData.depth]
      omega
theorem rowD_rows (b : Bool) (ds : List PyData) : rowD (rows b ds) = true := by cases b <;> rfl
theorem okD_shaped {n : Nat} {d : PyData} (h : okD n d = true) (hn : n ≤ 64) : SeqAt.shaped d = true := by
  obtain ⟨h1, h2, _⟩ := okD_out n d h
  unfold SeqAt.shaped
  rw [h1, decide_eq_true (by omega)]
  rfl
theorem okD_ints (n : Nat) (ns : List Int) : okD (n + 1) (.list (ns.map .int)) = true := by
  show (ns.map PyData.int).all (okD n) = true
  rw [List.all_eq_true]
  intro d hd
  obtain ⟨x, _, rfl⟩ := List.mem_map.mp hd
  cases n <;> rfl
theorem eqv_int (i j : Int) : PyData.eqv (.int i) (.int j) = decide (i = j) := by
  show (i == j) = decide (i = j)
  exact (Bool.beq_eq_decide_eq i j)
theorem eqv_ints : ∀ ns ms : List Int, PyData.eqvAll (ns.map .int) (ms.map .int) = decide (ns = ms)
  | [], [] => by simp [PyData.eqvAll]
  | [], _ :: _ => by simp [PyData.eqvAll]
  | _ :: _, [] => by simp [PyData.eqvAll]
  | n :: ns, m :: ms => by
    rw [List.map_cons, List.map_cons, PyData.eqvAll, eqv_ints ns ms, eqv_int n m]
    simp
theorem shaped_int (i : Int) : SeqAt.shaped (.int i) = true := rfl
@[simp] theorem eqD_int (i j : Int) : eqD (.int i) (.int j) = some (.bool (decide (i = j))) := by
  unfold eqD
  rw [shaped_int, shaped_int, eqv_int]
  rfl
@[simp] theorem neD_int (i j : Int) : neD (.int i) (.int j) = some (.bool (!decide (i = j))) := by
  unfold neD
  rw [shaped_int, shaped_int, eqv_int]
  rfl
theorem eqD_same (n : Nat) {d : PyData} (h : okD n d = true) (hn : n ≤ 64) : eqD d d = some (.bool true) := by
  unfold eqD
  rw [okD_shaped h hn, (okD_out n d h).2.2]
  rfl
theorem neD_same (n : Nat) {d : PyData} (h : okD n d = true) (hn : n ≤ 64) : neD d d = some (.bool false) := by
  unfold neD
  rw [okD_shaped h hn, (okD_out n d h).2.2]
  rfl
end Fd
end

section
set_option Elab.async false
set_option linter.all false
set_option maxRecDepth 100000
set_option maxHeartbeats 1000000
/-! Walks by meaning 12: a list backwards, in a tuple of texts, rows that the module keeps. -/
variable [Fd.Uw]
namespace Fd
open PySem PySem.Spec PyProof.Rows L2 Evl Tb
/-! ### xs[::-1] of a list -/
theorem vals_append {xs ys : List V} {us ws : List Value} : Vals xs us → Vals ys ws → Vals (xs ++ ys) (us ++ ws)
  | .nil, h => h
  | .cons r t, h => .cons r (vals_append t h)
theorem vals_back : ∀ {xs : List V} {us : List Value}, Vals xs us → Vals xs.reverse us.reverse
  | _, _, .nil => .nil
  | _, _, .cons r t => by
    rw [List.reverse_cons, List.reverse_cons]
    exact vals_append (vals_back t) (.cons r .nil)
theorem pick_rev (its : List Value) : slicePick its.toArray none none (some (-1)) = its.reverse.toArray := by
  unfold slicePick sliceBounds
  rw [List.size_toArray]
  show (List.filterMap _ (sliceRange ((its.length : Int) - 1) (-1) (-1))).toArray = _
  have e : sliceRange ((its.length : Int) - 1) (-1) (-1) = (List.range its.length).map fun k => its.length - 1 - k := by
    unfold sliceRange
    have h1 : ¬ ((-1 : Int) > 0) := by decide
    simp only [if_neg h1]
    have h2 : (if ((its.length : Int) - 1 > -1) then ((its.length : Int) - 1 - -1 - -1 - 1) / - -1 else 0).toNat = its.length := by
      split
      · rw [show (- -1 : Int) = 1 from rfl, Int.ediv_one]
        omega
      · rw [show (0 : Int).toNat = 0 from rfl]
        omega
    rw [h2]
    apply List.map_congr_left
    intro k hk
    have := List.mem_range.mp hk
    omega
  rw [e, List.filterMap_map]
  congr 1
  have e2 : List.filterMap ((fun x => its.toArray[x]?) ∘ fun k => its.length - 1 - k) (List.range its.length) = (List.range its.length).map fun k => its.getD (its.length - 1 - k) .none := by
    have e3 : (List.range its.length).map ((fun x => its.toArray[x]?) ∘ fun k => its.length - 1 - k) = (List.range its.length).map fun k => some (its.getD (its.length - 1 - k) .none) := by
      apply List.map_congr_left
      intro k hk
      have hk := List.mem_range.mp hk
      show its.toArray[its.length - 1 - k]? = some _
      rw [List.getElem?_toArray, List.getD_eq_getElem?_getD, List.getElem?_eq_getElem (by omega)]
      rfl
    have e4 : ∀ (f : Nat → Option Value) (l : List Nat), l.filterMap f = (l.map f).filterMap id := fun f l => by
      rw [List.filterMap_map]
      rfl
    rw [e4, e3, List.filterMap_map, ← List.filterMap_eq_map']
    rfl
  rw [e2]
  apply List.ext_getElem?
  intro i
  by_cases hi : i < its.length
  · rw [List.getElem?_reverse hi, List.getElem?_map, List.getElem?_range hi]
    show some (its.getD (its.length - 1 - i) .none) = _
    rw [List.getD_eq_getElem?_getD, List.getElem?_eq_getElem (by omega)]
    rfl
  · rw [List.getElem?_eq_none (show its.reverse.length ≤ i by rw [List.length_reverse]; omega), List.getElem?_eq_none (by rw [List.length_map, List.length_range]; omega)]
def tRev (K : PySem.W.Frag) (te ts : TE) : TE := fun σ H Q => te σ H fun x H1 => ts σ H1 fun y H2 => y = .int (-1) ∧ ∃ a xs, x = .ref a ∧ SqL K H2 a xs ∧ ∀ p, H2 p = none → Q (.ref p) (upd H2 p (.lst xs.reverse))
theorem pe_rev {X : Cx} {K : PySem.W.Frag} {e st : Expr} {te ts : TE} {pos p2 : Pos} (hK : X.K = K) (he : PE X e te) (hs : PE X st ts) : PE X (.Subscript e (.Slice none none (some st) p2) pos) (tRev K te ts) := by
  subst hK
  refine ⟨fun pins s σ H Q I h => ?_⟩
  refine Subscript_ (thn (he.run pins s σ H _ I h) fun v s1 ⟨x, H1, I1, r1, q1⟩ => ?_)
  refine wpAny_Slice ?_
  rw [evalPart_none]
  refine wpAny_pure (wpAny_pure ?_)
  rw [evalPart_some]
  refine thn (hs.run pins s1 σ H1 _ I1 q1) fun u s2 ⟨y, H2, I2, r2, q2⟩ => ?_
  obtain ⟨rfl, a, xs, rfl, hx, q⟩ := q2
  obtain ⟨t, rfl⟩ := r2
  cases r1
  have I4 : Inv X pins σ H2 { s2 with heap := s2.heap.push { cls := .type "slice", data := .fields #[.none, .none, .int (-1) t] } } := I2.kept (t' := s2.toks) fun b ob q => Heap.get?_push_of_some _ q
  obtain ⟨its, r, ht, hz⟩ := I4.list hx
  have hlen := r.length
  show wpAny (model X.prog X.w) X.A (subscriptTail e (.Slice none none (some st) p2) (.ref a) (.ref s2.heap.objs.size)) (EP X pins σ Q) X.xe { s2 with heap := s2.heap.push { cls := .type "slice", data := .fields #[.none, .none, .int (-1) t] } }
  refine tail_any (ops := [.ref a, .ref s2.heap.objs.size]) ht.isList.typeIs slot_list_getitem.lookup ?_ (by with_unfolding_all rfl)
  refine wpAny_getItem_list_slice ht.isList (Heap.IsSliceOf.new ..) .none .none (.int (-1) t) (by decide) ?_ (by rw [List.size_toArray] <;> omega)
  rw [pick_rev]
  refine ⟨.ref _, _, I4.laid (t' := s2.toks) (o := .lst xs.reverse) (fun b ob q => Heap.get?_push_of_some _ q) (Nat.le_refl _) ?_, rfl, q _ (I4.hok.fresh (Nat.le_refl _))⟩
  exact ⟨by rw [List.length_reverse]; omega, _, 0, vals_back r, Heap.get?_push_size _ rfl⟩
theorem dpa_back {K : PySem.W.Frag} {H : Hp} : ∀ {xs : List V} {ds : List PyData}, DqAll K H xs ds → DqAll K H xs.reverse ds.reverse
  | _, _, .nil => .nil
  | _, _, .cons r t => by
    rw [List.reverse_cons, List.reverse_cons]
    exact (dpa_back t).append (.cons r .nil)
def dBack (f g : Dn PyData) : Dn (List PyData) := dBind f fun x => dBind g fun y => match x, y with
  | .list ds, .int i => if i = -1 then dK ds.reverse else fun _ => none
  | _, _ => fun _ => none
theorem sl_back {K : PySem.W.Frag} {te ts : TE} {f g : Dn PyData} (h : SE K te f) (hs : SE K ts g) : SL K (tRev K te ts) (dBack f g) := fun W hW σ e B H a d e' h' Q q => by
  obtain ⟨x, e1, h1, h2⟩ := dBind_some h'
  obtain ⟨y, e2, h3, h4⟩ := dBind_some h2
  refine h W hW σ e B H a x e1 h1 _ fun v1 B1 H1 a1 g1 d1 => hs W hW σ e1 B1 H1 a1 y e2 h3 _ fun v2 B2 H2 a2 g2 d2 => ?_
  have d3 := dp_mono g2.go.hg d1
  split at h4
  · rename_i ds i
    split at h4
    · rename_i hi
      subst hi
      cases h4
      obtain ⟨p, us, rfl, k1, k2⟩ := d3.lst_of
      refine ⟨d2.int_of, p, us, rfl, ex_l a2.ex k1, fun r hr => ?_⟩
      have gr : Gr B2 H2 B2 (upd H2 r (.lst us.reverse)) := Gr.mut a2.ex hr
      exact q _ _ _ _ (a2.gr gr) ((g1.trans g2).trans (gx_gr gr)) ((g1.trans g2).go.dm r hr) upd_same (fresh_back a2.ex hr) (dpa_back k2)
    · cases h4
  · cases h4
/-! ### in a tuple of texts -/
def strsOf : List PyData → Option (List Str)
  | [] => some []
  | .str z :: ds => (strsOf ds).map (z :: ·)
  | _ => none
def rInU (K : PySem.W.Frag) : R2 := fun x y H Q => rInD K x y H Q ∨ rIn K false x y H Q
theorem ok_inU {X : Cx} {K : PySem.W.Frag} (h : X.K = K) (hu : X.A.units + 65 < cLine) : OpR X (compareOp .In) (rInU K) := by
  subst h
  exact (op_inD hu).or op_in_seq
def inUD (x y : PyData) : Option PyData := match x, y with
  | .str z, .tuple ds => (strsOf ds).map fun ss => .bool (ss.any fun s => s == z)
  | _, _ => inD false x y
theorem strs_vals {K : PySem.W.Frag} {H : Hp} : ∀ {ds : List PyData} {ss : List Str} {us : List V}, strsOf ds = some ss → DqAll K H us ds → us = ss.map V.str
  | [], _, _, h, .nil => by
    cases h
    rfl
  | d :: ds, ss, _, h, .cons r t => by
    cases d with
    | str z =>
      obtain ⟨ss', h1, rfl⟩ := Option.map_eq_some_iff.mp h
      rw [strs_vals h1 t, r.str_of]
      rfl
    | _ => cases h
theorem inV_strs (z : Str) : ∀ ss : List Str, inV (.str z) (ss.map V.str) = ss.any fun s => s == z
  | [] => rfl
  | s :: ss => by
    have := inV_strs z ss
    unfold inV at this ⊢
    rw [List.map_cons, List.any_cons, List.any_cons, this]
    rfl
theorem flat_strs : ∀ ss : List Str, (ss.map V.str).all flatV = true
  | [] => rfl
  | _ :: ss => by
    rw [List.map_cons, List.all_cons, flat_strs ss]
    rfl
theorem rf_inU {K : PySem.W.Frag} {B : Hp} (x y z : PyData) (h : inUD x y = some z) : RD K (rInU K) x y B z := by
  unfold inUD at h
  split at h
  · rename_i z ds
    obtain ⟨ss, h1, rfl⟩ := Option.map_eq_some_iff.mp h
    intro a b H1 e hx hy Q q
    obtain ⟨p, us, rfl, k1, k2⟩ := hy.tup_of
    have e1 := strs_vals h1 k2
    subst e1
    rw [hx.str_of]
    refine .inr ⟨p, _, rfl, .inr (ex_t e k1), rfl, flat_strs ss, ?_⟩
    rw [if_neg Bool.false_ne_true, inV_strs]
    exact q _ B H1 (.refl e) (.bl _)
  · intro a b H1 e hx hy Q q
    exact .inl (rf_in _ _ _ h a b H1 e hx hy Q q)
theorem se_inU {K : PySem.W.Frag} {ta tb : TE} {f g : Dn PyData} (ha : SE K ta f) (hb : SE K tb g) : SE K (tOp (rInU K) ta tb) (dOp inUD f g) := se_op (fun B => rf_inU) ha hb
def rNotInU (K : PySem.W.Frag) : R2 := fun x y H Q => rNotInD K x y H Q ∨ rIn K true x y H Q
theorem ok_notInU {X : Cx} {K : PySem.W.Frag} (h : X.K = K) (hu : X.A.units + 65 < cLine) : OpR X (compareOp .NotIn) (rNotInU K) := by
  subst h
  exact (op_notInD hu).or op_notIn_seq
def notInUD (x y : PyData) : Option PyData := match x, y with
  | .str z, .tuple ds => (strsOf ds).map fun ss => .bool (!ss.any fun s => s == z)
  | _, _ => inD true x y
theorem rf_notInU {K : PySem.W.Frag} {B : Hp} (x y z : PyData) (h : notInUD x y = some z) : RD K (rNotInU K) x y B z := by
  unfold notInUD at h
  split at h
  · rename_i z ds
    obtain ⟨ss, h1, rfl⟩ := Option.map_eq_some_iff.mp h
    intro a b H1 e hx hy Q q
    obtain ⟨p, us, rfl, k1, k2⟩ := hy.tup_of
    have e1 := strs_vals h1 k2
    subst e1
    rw [hx.str_of]
    refine .inr ⟨p, _, rfl, .inr (ex_t e k1), rfl, flat_strs ss, ?_⟩
    rw [if_pos rfl, inV_strs]
    exact q _ B H1 (.refl e) (.bl _)
  · intro a b H1 e hx hy Q q
    exact .inl (rf_notIn _ _ _ h a b H1 e hx hy Q q)
theorem se_notInU {K : PySem.W.Frag} {ta tb : TE} {f g : Dn PyData} (ha : SE K ta f) (hb : SE K tb g) : SE K (tOp (rNotInU K) ta tb) (dOp notInUD f g) := se_op (fun B => rf_notInU) ha hb
theorem room65 {n : Nat} {A : Around} (hr : Room n A) : A.units + 65 < cLine := by
  have := hr.un
  omega
/-! ### rows of texts that the module keeps -/
/-- a tuple of texts at a -/
def TxT (K : PySem.W.Frag) (a : Addr) (ss : List Str) : Prop := ∀ H : Hp, SqT K H a (ss.map V.str)
theorem dpa_strs {K : PySem.W.Frag} {H : Hp} : ∀ ss : List Str, DqAll K H (ss.map V.str) (ss.map PyData.str)
  | [] => .nil
  | s :: ss => .cons (.str s) (dpa_strs ss)
theorem se_txt {K : PySem.W.Frag} {a : Addr} {ss : List Str} (h : TxT K a ss) (hn : towerish (ss.map .str) = false := by rfl) : SE K (tC (.ref a)) (dK (.tuple (ss.map .str))) := se_c fun B => .tupN (h B) (dpa_strs ss) hn
theorem txT_of {K : PySem.W.Frag} {x : Str} {ss : List Str} (h : He.tupB K x (ss.map .str) = true) : TxT K (He.ga K x) ss := fun H => by
  have := He.tupB_ok h H
  rw [List.map_map] at this
  exact this
/-! ### the hook that tells rows of texts too -/
abbrev AlT : Type := He.AlD × Bool
def obsT (fa : List He.Fa) (fn : List He.DefD) (ts : List (Str × List Str)) (K : PySem.W.Frag) : AlT := (He.obsD fa fn K, ts.all fun t => He.tupB K t.1 (t.2.map .str))
def obsTG (n : Nat) (fa : List He.Fa) (fn : List He.DefD) (ts : List (Str × List Str)) (g : Addr → Option Obj) : AlT := obsT fa fn ts (He.frG g (He.asD g n))
def hookT (n : Nat) (fa : List He.Fa) (fn : List He.DefD) (ts : List (Str × List Str)) : PySem.W.Hook where
  α := AlT
  obs := fun s => obsTG n fa fn ts s.heap.get?
  val := fun _ => (He.valD fn, true)
  says := fun _ h => ∃ K : PySem.W.Frag, K.In h ∧ obsT fa fn ts K = (He.valD fn, true)
  of := fun _ _ e => ⟨_, He.frG_in, e⟩
  keeps := fun _ _ _ ⟨K, hK, c⟩ k => ⟨K, PySem.W.Frag.In.keeps hK k, c⟩
theorem obsTG_eq {n : Nat} {fa : List He.Fa} {fn : List He.DefD} {ts : List (Str × List Str)} {g : Addr → Option Obj} {s : Shared} (h : ∀ a, g a = s.heap.get? a) : obsTG n fa fn ts g = (hookT n fa fn ts).obs s := by
  have e : g = s.heap.get? := funext h
  rw [e] <;> rfl
theorem saysT_D {K : PySem.W.Frag} {fa : List He.Fa} {fn : List He.DefD} {ts : List (Str × List Str)} (c : obsT fa fn ts K = (He.valD fn, true)) : He.SaysD fa fn K := congrArg (fun z : AlT => z.1) c
theorem saysT_t {K : PySem.W.Frag} {fa : List He.Fa} {fn : List He.DefD} {ts : List (Str × List Str)} (c : obsT fa fn ts K = (He.valD fn, true)) (i : Nat) {x : Str} {ss : List Str} (h : ts[i]? = some (x, ss)) : TxT K (He.ga K x) ss := by
  have c2 : (ts.all fun t => He.tupB K t.1 (t.2.map .str)) = true := congrArg (fun z : AlT => z.2) c
  exact txT_of (List.all_eq_true.mp c2 (x, ss) (List.mem_of_getElem? h))
end Fd
end

section
set_option Elab.async false
set_option linter.all false
set_option maxRecDepth 100000
set_option maxHeartbeats 1000000
/-! Walks by meaning 13: a name that holds one of two defs. -/
variable [Fd.Uw]
namespace Fd
open PySem PySem.Spec PyProof.Rows L2 Evl Tb
theorem At.setN {W : Wo} {σ : L2.St} {e : En} {B H : Hp} (a : At W σ e B H) {i : Nat} {v : V} (hp : W.pn i = none) : At W (σ.set i (some v)) (e.set i .no) B H where
  ex := a.ex
  nm := a.nm
  len := by rw [List.length_set, List.length_set, a.len]
  dat := fun j x h => by
    by_cases c : i = j
    · subst c
      rw [List.getElem?_set] at h
      simp at h
    · rw [List.getElem?_set_ne c] at h ⊢
      exact a.dat j x h
  own := fun j s xs h h2 => by
    by_cases c : i = j
    · subst c
      rw [List.getElem?_set] at h
      simp at h
      rw [← h.2] at h2
      cases h2
    · rw [List.getElem?_set_ne c] at h ⊢
      exact a.own j s xs h h2
  sep := fun j k s t p xs ys h1 h2 h3 h4 h5 h6 => by
    by_cases c : i = j
    · subst c
      rw [List.getElem?_set] at h1
      simp at h1
      rw [← h1.2] at h2
      cases h2
    · by_cases c2 : i = k
      · subst c2
        rw [List.getElem?_set] at h3
        simp at h3
        rw [← h3.2] at h4
        cases h4
      · rw [List.getElem?_set_ne c] at h1 h5
        rw [List.getElem?_set_ne c2] at h3 h6
        exact a.sep j k s t p xs ys h1 h2 h3 h4 h5 h6
  pin := fun j b h => by
    by_cases c : i = j
    · subst c
      rw [hp] at h
      cases h
    · rw [List.getElem?_set_ne c, List.getElem?_set_ne c]
      exact a.pin j b h
def sFn (c : Dn Bool) (i : Nat) (D1 D2 : Ds) : Ds := fun e => match c e with
  | some (b, e1) => if canSet e1 i = true then (if b = true then D1 (e1.set i .no) else D2 (e1.set i .no)) else none
  | none => none
theorem ss_fn {K : PySem.W.Frag} {i : Nat} {tt : TT} {c : Dn Bool} {a1 a2 : Addr} {T T1 T2 : TE} {D1 D2 : Ds} (tS : TE → TS) (hc : ST K tt c) (hloc : ∀ (t t' : TE) (σ : L2.St), t σ = t' σ → ∀ D H, tS t D σ H → tS t' D σ H)
    (q1 : ∀ σ : L2.St, σ[i]? = some (some (.ref a1)) → T1 σ = T σ) (q2 : ∀ σ : L2.St, σ[i]? = some (some (.ref a2)) → T2 σ = T σ) (h1 : SS K (tS T1) D1) (h2 : SS K (tS T2) D2) :
    SS K (tSeq (tAsg (tIf tt (tC (.ref a1)) (tC (.ref a2))) (gName i)) (tS T)) (sFn c i D1 D2) := fun W hW σ e B H a r hr D q => by
  unfold sFn at hr
  split at hr
  · rename_i b e1 he
    split at hr
    · rename_i hcs
      refine hc W hW σ e B H a b e1 he _ fun B1 H1 a1' g1 => ?_
      have qq := q.mono (a.goM g1)
      have hl : i < σ.length := by
        rw [a1'.len]
        unfold canSet at hcs
        cases hg : e1[i]? with
        | none =>
          rw [hg] at hcs
          cases hcs
        | some s => exact (List.getElem?_eq_some_iff.mp hg).1
      have hp := can_pn a1' hcs
      by_cases z : b = true
      · rw [if_pos z] at hr ⊢
        exact hloc T1 T (σ.set i (some (.ref a1))) (q1 _ (List.getElem?_set_self hl)) D H1 (h1 W hW _ _ B1 H1 (a1'.setN hp) r hr D qq)
      · rw [if_neg z] at hr ⊢
        exact hloc T2 T (σ.set i (some (.ref a2))) (q2 _ (List.getElem?_set_self hl)) D H1 (h2 W hW _ _ B1 H1 (a1'.setN hp) r hr D qq)
    · cases hr
  · cases hr
theorem callA_eq {i : Nat} {S : Addr → Option Sp} {t : TA} {a : Addr} {sp : Sp} (hS : S a = some sp) (σ : L2.St) (h : σ[i]? = some (some (.ref a))) : tCall sp [] (fun _ _ _ => False) t σ = tCallA i S t σ := by
  funext H Q
  have e : (fun (vs : List V) (H1 : Hp) => sp (vs ++ []) H1 Q (fun _ _ _ => False)) = fun vs H1 => sp vs H1 Q (fun _ _ _ => False) := by
    funext vs H1
    rw [List.append_nil]
  apply propext
  constructor
  · intro q
    refine ⟨a, sp, h, hS, ?_⟩
    have q' : t σ H (fun vs H1 => sp (vs ++ []) H1 Q (fun _ _ _ => False)) := q
    rw [e] at q'
    exact q'
  · rintro ⟨f, sp', h1, h2, h3⟩
    rw [h] at h1
    cases h1
    rw [hS] at h2
    cases h2
    show t σ H (fun vs H1 => sp (vs ++ []) H1 Q (fun _ _ _ => False))
    rw [e]
    exact h3
theorem held_has {P : Program} {w : World} {K : PySem.W.Frag} {mg : Str → Option Value} {base : Heap} {x : Str} {k : Nat} {ps : List Str} {sp : Sp} {f : Addr} (A : Has P w K mg base L2.CX0 x k ps [] sp) (hm : mg x = some (.ref f)) : Held P w K mg base k f sp := by
  obtain ⟨f', fd, ds, F, hm', hk, hv, hb⟩ := A.ex
  have e : f' = f := by
    rw [hm] at hm'
    cases hm'
    rfl
  subst e
  cases hv
  exact ⟨fd, ps, F, hk, hb⟩
theorem fun_ne {K : PySem.W.Frag} {x y qx qy : Str} {px py : Arguments} {bx by_ : List Stmt} {sx sy : Scope} {dx dy : List V} {kx ky : List (Str × V)} {f g : Addr} {fd gd : FuncData} (F : FunD K x qx px bx sx dx kx f fd) (G : FunD K y qy py by_ sy dy ky g gd) (h : x ≠ y) : f ≠ g := by
  intro e
  subst e
  obtain ⟨_, _, _, _, _, _, _, _, _, _, rfl, l1, _⟩ := F.ex
  obtain ⟨_, _, _, _, _, _, _, _, _, _, rfl, l2, _⟩ := G.ex
  rw [l1] at l2
  have := Option.some.inj l2
  injection this with _ _ h3 _
  injection h3 with h4
  exact h (congrArg FuncData.name h4)
def twoS (a1 a2 : Addr) (s1 s2 : Sp) : Addr → Option Sp := fun f => if f = a1 then some s1 else if f = a2 then some s2 else none
theorem twoS_1 {a1 a2 : Addr} {s1 s2 : Sp} : twoS a1 a2 s1 s2 a1 = some s1 := if_pos rfl
theorem twoS_2 {a1 a2 : Addr} {s1 s2 : Sp} (h : a1 ≠ a2) : twoS a1 a2 s1 s2 a2 = some s2 := by
  unfold twoS
  rw [if_neg (Ne.symm h), if_pos rfl]
theorem twoS_ok {a1 a2 : Addr} {s1 s2 : Sp} {p : Addr → Sp → Prop} (h1 : p a1 s1) (h2 : p a2 s2) : ∀ f sp, twoS a1 a2 s1 s2 f = some sp → p f sp := fun f sp h => by
  unfold twoS at h
  by_cases c1 : f = a1
  · rw [if_pos c1] at h
    cases h
    rw [c1]
    exact h1
  · rw [if_neg c1] at h
    by_cases c2 : f = a2
    · rw [if_pos c2] at h
      cases h
      rw [c2]
      exact h2
    · rw [if_neg c2] at h
      cases h
end Fd
end

section
set_option Elab.async false
set_option linter.all false
set_option maxRecDepth 100000
set_option maxHeartbeats 1000000
/-! Walks by meaning 14: a def that tells a tuple with a new list at its head; a new list that is changed where it is told. -/
variable [Fd.Uw]
namespace Fd
open PySem PySem.Spec PyProof.Rows L2 Evl Tb
section
variable {K : PySem.W.Frag} {n : Nat} {ta : TA} {te tb : TE} {fl : Dn (List PyData)} {E : XK} {W : Wo} {σ : L2.St} {e : En} {B H : Hp} {t u : TS} {F : Ds}
/-- a tuple: a new list, then data -/
def spT (K : PySem.W.Frag) (n : Nat) (F : List PyData → Option (List PyData × List PyData)) : Sp := fun vs H Q _ => ∃ (B : Hp) (ds xs zs : List PyData), Ex B H ∧ ds.length = n ∧ DqAll K B vs ds ∧ F ds = some (xs, zs) ∧
  ∀ t p us ws B' H', Gr B H B' H' → H p = none → H' p = some (.lst us) → B' p = none → DqAll K B' us xs → SqT K B' t (.ref p :: ws) → DqAll K B' ws zs → Q (.ref t) H'
theorem spT_len {ps : List Str} {F : List PyData → Option (List PyData × List PyData)} (hn : n = ps.length) : ∀ vs H Q E, spT K n F vs H Q E → vs.length = ps.length := fun vs H Q E h => by
  obtain ⟨B, ds, xs, zs, _, hl, hd, _⟩ := h
  rw [DqAll.length hd, hl, hn]
def tupF (F : List PyData → Option (List PyData × List PyData)) : List PyData → Option PyData := fun ds => (F ds).map fun r => .tuple (.list r.1 :: r.2)
def tupHd (F : List PyData → Option (List PyData × List PyData)) : List PyData → Option (List PyData) := fun ds => (F ds).map Prod.fst
theorem se_callT {F : List PyData → Option (List PyData × List PyData)} {dvs : List V} {dds : List PyData} (hv : ∀ H, DqAll K H dvs dds) (h : SA K ta fl) : SE K (tCall (spT K n F) dvs E ta) (dCall n (tupF F) dds fl) := fun W hW σ e B H a d e' h' Q q => by
  obtain ⟨ds, e1, h1, h2⟩ := dBind_some h'
  split at h2
  · rename_i hl
    obtain ⟨h3, rfl⟩ := dLift_some h2
    obtain ⟨⟨xs, zs⟩, hF, rfl⟩ := Option.map_eq_some_iff.mp h3
    refine h W hW σ e B H a ds e' h1 _ fun vs B1 H1 a1 g1 d1 => ⟨B1, ds ++ dds, xs, zs, a1.ex, hl, d1.append (hv _), hF, fun t p us ws B2 H2 g2 p0 hp pB du st dz => ?_⟩
    have g3 := gr_freeze pB p0 g2 hp
    have x3 : Ex B2 (upd B2 p (.lst us)) := Ex.new pB
    exact q (.ref t) _ H2 (a1.gr g3) (g1.trans (gx_gr g3)) (.tupN (ex_t x3 st) (.cons (.lst (sq_of upd_same) (dpa_mono x3 du)) (dpa_mono x3 dz)) rfl)
  · cases h2
theorem atI_hd {α : Type} (x : α) (xs : List α) : atI (x :: xs) 0 = some x := by
  unfold atI
  simp [ixN]
theorem sl_callT0 {F : List PyData → Option (List PyData × List PyData)} {dvs : List V} {dds : List PyData} (hv : ∀ H, DqAll K H dvs dds) (h : SA K ta fl) : SL K (tOp (rIx K) (tCall (spT K n F) dvs E ta) (tC (.int 0))) (dCallL n (tupHd F) dds fl) := fun W hW σ e B H a d e' h' Q q => by
  obtain ⟨ds, e1, h1, h2⟩ := dBind_some h'
  split at h2
  · rename_i hl
    obtain ⟨h3, rfl⟩ := dLift_some h2
    obtain ⟨⟨xs, zs⟩, hF, rfl⟩ := Option.map_eq_some_iff.mp h3
    refine h W hW σ e B H a ds e' h1 _ fun vs B1 H1 a1 g1 d1 => ⟨B1, ds ++ dds, xs, zs, a1.ex, hl, d1.append (hv _), hF, fun t p us ws B2 H2 g2 p0 hp pB du st dz => ?_⟩
    exact .inr (.inl ⟨t, .ref p :: ws, 0, .ref p, rfl, rfl, ex_t g2.g2 st, atI_hd _ _, q p us B2 H2 (a1.gr g2) (g1.trans (gx_gr g2)) (g1.go.dm p p0) hp pB du⟩)
  · cases h2
/-- a new list is told, changed and forgotten -/
def sAppN (fl : Dn (List PyData)) : Ds := fun e => match fl e with
  | some (xs, e1) => if few xs = true then some (.nx e1) else none
  | none => none
theorem ss_appN (h : SL K te fl) : SS K (tDrop (tBM K "list" rAppend te (tCons (tC .non) tNil))) (sAppN fl) := fun W hW σ e B H a r hr D q => by
  unfold sAppN at hr
  split at hr
  · rename_i xs e1 h1
    split at hr
    · rename_i hf
      cases hr
      refine h W hW σ e B H a xs e1 h1 _ fun p us B1 H1 a1 g1 p0 hp pB d1 => ⟨.inl ⟨rfl, us, sq_of hp⟩, p, us, .non, rfl, rfl, hp, sz_lt ?_, ?_⟩
      · have := of_decide_eq_true hf
        rw [DqAll.length d1]
        omega
      · have no : ¬ Ow σ e1 p := fun z => (a.ow (g1.ow p z)).2.1 p0
        have g2 : Go W.M B H B1 (upd H1 p (.lst (us ++ [.non]))) := Go.put (a.goM g1) p0
        exact q σ B1 _ (a1.oth pB no) g2
    · cases hr
  · cases hr
/-! ### the body of such a def -/
def SQ (K : PySem.W.Frag) (t : TS) (f : En → Option (List PyData × List PyData)) : Prop := ∀ (W : Wo), W.K = K → ∀ (σ : L2.St) (e : En) (B H : Hp), At W σ e B H → ∀ xs zs, f e = some (xs, zs) → ∀ D : Ends,
  (∀ t p us ws B' H', Go W.M B H B' H' → Ex B' H' → W.M p → H' p = some (.lst us) → B' p = none → DqAll K B' us xs → SqT K B' t (.ref p :: ws) → DqAll K B' ws zs → D.rt (.ref t) H') → t D σ H
def qSeq (F : Ds) (g : En → Option (List PyData × List PyData)) : En → Option (List PyData × List PyData) := fun e => match F e with
  | some (.nx e1) => g e1
  | _ => none
theorem sq_seq {g : En → Option (List PyData × List PyData)} (h1 : SS K t F) (h2 : SQ K u g) : SQ K (tSeq t u) (qSeq F g) := fun W hW σ e B H a xs zs hr D q => by
  unfold qSeq at hr
  split at hr
  · rename_i e1 he
    refine h1 W hW σ e B H a _ he _ fun σ' B' H' a' g' => h2 W hW σ' e1 B' H' a' xs zs hr D fun t p us ws B2 H2 g2 => q t p us ws B2 H2 (g'.trans g2)
  · cases hr
def qRet (i : Nat) (fl : Dn (List PyData)) : En → Option (List PyData × List PyData) := fun e => match e[i]? with
  | some (.o _) => match fl e with
    | some (zs, e1) => match e1[i]? with
      | some (.o ys) => if small (.none :: zs) = true then some (ys, zs) else none
      | _ => none
    | none => none
  | _ => none
theorem sq_ret {i : Nat} (h : SA K ta fl) : SQ K (tRet (tTup (tCons (tVar i) ta))) (qRet i fl) := fun W hW σ e B H a xs zs hr D q => by
  unfold qRet at hr
  split at hr
  · rename_i xs0 i0
    split at hr
    · rename_i zs' e1 h1
      split at hr
      · rename_i ys i1
        split at hr
        · rename_i hs
          cases hr
          obtain ⟨p, us0, k1, k2, k3, k4, k5⟩ := a.ownl i0 rfl
          refine ⟨.ref p, k1, h W hW σ e B H a _ e1 h1 _ fun vs B1 H1 a1 g1 d1 => ⟨sz_of ?_, fun r hr => ?_⟩⟩
          · have := of_decide_eq_true hs
            rw [List.length_cons] at this ⊢
            rw [DqAll.length d1]
            exact this
          · obtain ⟨p', us, m1, m2, m3, m4, m5⟩ := a1.ownl i1 rfl
            rw [k1] at m1
            cases m1
            rw [hW] at m5
            have pr : p ≠ r := fun z => by
              subst z
              rw [hr] at m4
              cases m4
            have g2 : Gr B1 H1 (upd B1 r (.tup (.ref p :: vs))) (upd H1 r (.tup (.ref p :: vs))) := Gr.new a1.ex hr
            refine q r p us vs _ _ ((a.goM g1).trans (.gr g2)) g2.g2 m2 (by rw [upd_ne pr]; exact m4) (by rw [upd_ne pr]; exact m3) (dpa_mono g2.hg m5) (st_of upd_same) (dpa_mono g2.hg d1)
        · cases hr
      · cases hr
    · cases hr
  · cases hr
def fnT (n : Nat) (F : En → Option (List PyData × List PyData)) (ds : List PyData) : Option (List PyData × List PyData) := F (init ds n)
theorem body_T {m n : Nat} {N : List Str} {t : TS} {F : En → Option (List PyData × List PyData)} (h : SQ K t F) (hn : N.length = m + n) {vs : List V} {Q : VK} {E : XK} (hs : spT K m (fnT n F) vs H Q E) : t { nx := fun _ H' => Q .non H', rt := Q } (L2.start N vs) H := by
  obtain ⟨B, ds, xs, zs, x, hl, hd, hF, q⟩ := hs
  have a := at_start x hd (by rw [hl]; exact hn)
  exact h _ rfl _ _ B H a xs zs hF _ fun t p us ws B' H' g' x' hM hp pB du st dz => q t p us ws B' H' (gr_of_go g' x') hM hp pB du st dz
end
end Fd
end

section
set_option Elab.async false
set_option linter.all false
set_option maxRecDepth 100000
set_option maxHeartbeats 1000000
/-! Walks by meaning 15: ranges downwards, how often a text stands in a list. -/
variable [Fd.Uw]
namespace Fd
open PySem PySem.Spec PyProof.Rows L2 Evl Tb
section
variable {K : PySem.W.Frag} {ta : TA} {te tb : TE} {fl : Dn (List PyData)} {f g : Dn PyData} {B0 : Hp}
/-! ### range(i, j, -1) -/
def dnD (hi : Int) (n : Nat) : List PyData := (List.range n).map fun i => .int (hi - (i : Nat))
theorem dn_len (hi : Int) (n : Nat) : (dnD hi n).length = n := by
  unfold dnD
  rw [List.length_map, List.length_range]
theorem wk_down {hi : Int} {n : Nat} : Wk K (Itc hi (-1) n) B0 (dnD hi n) := wk_of walk_rangeC (dn_len hi n).symm (fun _ _ => trivial) fun i d B1 H1 x H2 e1 e2 hi' y => by
  obtain ⟨rfl, rfl⟩ := y
  unfold dnD at hi'
  rw [List.getElem?_map] at hi'
  obtain ⟨j, hj, rfl⟩ := Option.map_eq_some_iff.mp hi'
  have e : j = i := by
    obtain ⟨h1, h2⟩ := List.getElem?_eq_some_iff.mp hj
    rw [List.getElem_range] at h2
    exact h2.symm
  subst e
  show ∃ B2, Gr B1 H2 B2 H2 ∧ Dq K B2 (V.int (hi + ((j : Nat) : Int) * (-1))) (PyData.int (hi - (j : Nat)))
  rw [show hi + ((j : Nat) : Int) * (-1) = hi - ((j : Nat) : Int) by omega]
  exact ⟨B1, .refl e2, .int _⟩
def dRgN (f : Dn (List PyData)) : Dn (List PyData) := dBind f fun ds => match ds with
  | [.int i, .int j, .int (-1)] => if (big i && big j) = true then dK (dnD i (i - j).toNat) else fun _ => none
  | _ => fun _ => none
theorem si_rgN (h : SA K ta fl) : SI K (iRng3 ta) (dRgN fl) := fun W hW σ e B H a ds e' h' R q => by
  obtain ⟨d, e1, h1, h2⟩ := dBind_some h'
  split at h2
  · rename_i i j
    split at h2
    · rename_i hb
      obtain ⟨rfl, rfl⟩ := dK_some h2
      rw [Bool.and_eq_true] at hb
      have hb1 := of_decide_eq_true hb.1
      have hb2 := of_decide_eq_true hb.2
      refine h W hW σ e B H a _ e' h1 _ fun vs B1 H1 a1 g1 d1 => ?_
      have ek := DqAll.ints (ns := [i, j, -1]) d1
      subst ek
      have bg : (1000000 : Int) < 2 ^ 62 := by decide
      exact ⟨i, j, -1, _, rfl, RgC.neg (by omega) (by omega) (by omega) (by omega), q _ B1 H1 a1 g1 wk_down⟩
    · cases h2
  · cases h2
@[simp] theorem dRgN_e {e : En} : dRgN fl e = dBind fl (fun ds => match ds with
  | [.int i, .int j, .int (-1)] => if (big i && big j) = true then dK (dnD i (i - j).toNat) else fun _ => none
  | _ => fun _ => none) e := rfl
/-! ### a method that reads a list -/
def RMD (K : PySem.W.Frag) (r : V → List V → Hp → VK → Prop) (F : List PyData → List PyData → Option PyData) : Prop := ∀ (B H : Hp) (p : Addr) (us vs : List V) (xs ds : List PyData) (z : PyData), Ex B H → SqL K B p us → DqAll K B us xs → DqAll K B vs ds → F xs ds = some z →
  ∀ Q : VK, (∀ w G H2, Gr B H G H2 → Dq K G w z → Q w H2) → r (.ref p) vs H Q
def dMt (F : List PyData → List PyData → Option PyData) (f : Dn PyData) (fl : Dn (List PyData)) : Dn PyData := dBind f fun x => match x with
  | .list xs => dBind fl fun ds => dLift (F xs ds)
  | _ => fun _ => none
theorem se_mt {r : V → List V → Hp → VK → Prop} {F : List PyData → List PyData → Option PyData} (hr : RMD K r F) (ha : SE K te f) (h : SA K ta fl) : SE K (tBM K "list" r te ta) (dMt F f fl) := fun W hW σ e B H a d e' h' Q q => by
  obtain ⟨x, e1, h1, h2⟩ := dBind_some h'
  split at h2
  · rename_i xs
    obtain ⟨ds, e2, h3, h4⟩ := dBind_some h2
    obtain ⟨h5, rfl⟩ := dLift_some h4
    refine ha W hW σ e B H a _ e1 h1 _ fun v B1 H1 a1 g1 d1 => ?_
    obtain ⟨p, us, rfl, k1, k2⟩ := d1.lst_of
    refine ⟨.inl ⟨rfl, us, ex_l a1.ex k1⟩, h W hW σ e1 B1 H1 a1 ds e' h3 _ fun vs B2 H2 a2 g2 d2 => ?_⟩
    exact hr B2 H2 p us vs xs ds d a2.ex (ex_l g2.go.hg k1) (dpa_mono g2.go.hg k2) d2 h5 Q fun w G H3 g3 hd => q w G H3 (a2.gr g3) ((g1.trans g2).trans (gx_gr g3)) hd
  · cases h2
@[simp] theorem dMt_e {F : List PyData → List PyData → Option PyData} {e : En} : dMt F f fl e = dBind f (fun x => match x with
  | .list xs => dBind fl fun ds => dLift (F xs ds)
  | _ => fun _ => none) e := rfl
/-! ### how often a text stands in a list -/
def strIs (z : Str) : Value → Bool
  | .str x _ => x == z
  | _ => false
theorem str_at {A : Around} {s : Shared} {z : Str} {t : Tok} : ∀ {us : List Value} {ss : List Str}, Vals (ss.map V.str) us → ∀ y ∈ us, SeqAt.EqAt A s y (.str z t) (strIs z y)
  | _, [], .nil => fun y hy => by cases hy
  | _, x :: ss, .cons ⟨t', e⟩ h => fun y hy => by
    rcases List.mem_cons.mp hy with c | c
    · subst c e
      exact SeqAt.EqAt.str_str x t' z t
    · exact str_at h y c
theorem str_cnt {z : Str} : ∀ {us : List Value} {ss : List Str}, Vals (ss.map V.str) us → us.countP (strIs z) = ss.count z
  | _, [], .nil => rfl
  | _, x :: ss, .cons ⟨t', e⟩ h => by
    subst e
    rw [List.countP_cons, List.count_cons, str_cnt h]
    rfl
def rCntS (K : PySem.W.Frag) : V → List V → Hp → VK → Prop := fun x vs H Q => ∃ (p : Addr) (ss : List Str) (z : Str), x = .ref p ∧ vs = [.str z] ∧ SqL K H p (ss.map V.str) ∧ Q (.int ((ss.count z : Nat) : Int)) H
theorem mk_cntS {X : Cx} (hK : X.K = K) : MtR X "list.count" (rCntS K) := by
  subst hK
  intro pins s σ H x xs v us Q I rx rxs h
  obtain ⟨p, ss, z, e1, e2, hs, q⟩ := h
  subst e1 e2
  cases rx
  obtain ⟨u, e3, ru⟩ := rxs.one
  subst e3
  obtain ⟨t, e4⟩ := ru
  subst e4
  obtain ⟨its, rv, ⟨⟨cls, dd, data, sl⟩, n, ho, hc, hdn, hd⟩, hlen⟩ := I.list hs
  simp only at hc hd
  subst hc hd
  refine call_meets PySem.F.slot_list_count ⟨_, ho, rfl⟩ PySem.F.entry_list_count (PySem.F.args_list_count_2 _ _)
    (SeqAt.list_countAt p its.toArray n dd sl (.str z t) (strIs z)) ⟨ho, fun y hy => str_at rv y (by simpa using hy), ?_⟩
  refine ⟨.int ((ss.count z : Nat) : Int), H, I.tok _, ⟨s.toks, ?_⟩, q⟩
  have ec : its.toArray.toList.countP (strIs z) = ss.count z := str_cnt rv
  rw [← ec]
def cntD (xs ds : List PyData) : Option PyData := match ds with
  | [.str z] => (strsOf xs).map fun ss => .int ((ss.count z : Nat) : Int)
  | _ => none
theorem mf_cnt : RMD K (rCntS K) cntD := fun B H p us vs xs ds z x hp hu hv hF Q q => by
  unfold cntD at hF
  split at hF
  · rename_i y
    obtain ⟨ss, h1, rfl⟩ := Option.map_eq_some_iff.mp hF
    have e := strs_vals h1 hu
    subst e
    cases hv with
    | cons h2 h3 =>
      cases h3
      exact ⟨p, ss, y, rfl, by rw [h2.str_of], ex_l x hp, q _ B H (.refl x) (.int _)⟩
  · cases hF
/-! ### a choice that is tested -/
def tIfT (t u v : TT) : TT := fun σ H Q => t σ H fun d H1 => if d = true then u σ H1 Q else v σ H1 Q
theorem pt_ifT {X : Cx} {c a b : Expr} {t u v : TT} {pos : Pos} (hc : PT X c t) (ha : PT X a u) (hb : PT X b v) : PT X (.IfExp c a b pos) (tIfT t u v) := by
  refine ⟨fun pins s σ H Q I h => isTrue_IfExp (thn (hc.run pins s σ H _ I h) fun d s1 ⟨H1, I1, q1⟩ => ?_)⟩
  cases d with
  | true => exact ha.run pins s1 σ H1 Q I1 q1
  | false => exact hb.run pins s1 σ H1 Q I1 q1
theorem st_ifT {t u v : TT} {c d e0 : Dn Bool} (hc : ST K t c) (ha : ST K u d) (hb : ST K v e0) : ST K (tIfT t u v) (dIf c d e0) := fun W hW σ e B H a r e' h Q q => by
  obtain ⟨b, e1, h1, h⟩ := dBind_some h
  refine hc W hW σ e B H a b e1 h1 _ fun B1 H1 a1 g1 => ?_
  by_cases z : b = true
  · rw [if_pos z] at h ⊢
    exact ha W hW σ e1 B1 H1 a1 r e' h Q fun B2 H2 a2 g2 => q B2 H2 a2 (g1.trans g2)
  · rw [if_neg z] at h ⊢
    exact hb W hW σ e1 B1 H1 a1 r e' h Q fun B2 H2 a2 g2 => q B2 H2 a2 (g1.trans g2)
/-! ### data with texts, compared with itself -/
def okE : Nat → PyData → Bool
  | _, .none => true
  | _, .bool _ => true
  | _, .int _ => true
  | _, .str x => SeqAt.shaped (.str x)
  | n + 1, .list xs => xs.all (okE n)
  | n + 1, .tuple xs => xs.all (okE n)
  | _, _ => false
theorem okE_out : ∀ (n : Nat) (d : PyData), okE n d = true → d.canLay0 = true ∧ d.depth ≤ n ∧ PyData.eqv d d = true := by
  intro n
  induction n with
  | zero =>
    intro d h
    cases d with
    | str x => exact ⟨SeqAt.canLay_of_shaped h, by simp [PyData.depth], by simp [PyData.eqv]⟩
    | _ => first | (exfalso; exact Bool.noConfusion (show false = true from h)) | (refine ⟨?_, ?_, ?_⟩ <;> simp [PyData.canLay0, PyData.depth, PyData.eqv])
  | succ n ih =>
    have all : ∀ xs : List PyData, xs.all (okE n) = true → PyData.canLayAll0 xs = true ∧ PyData.depthAll xs ≤ n ∧ PyData.eqvAll xs xs = true := fun xs => by
      induction xs with
      | nil => exact fun _ => by simp [PyData.canLayAll0, PyData.depthAll, PyData.eqvAll]
      | cons x xs ihx =>
        intro h
        rw [List.all_cons, Bool.and_eq_true] at h
        obtain ⟨h1, h2, h3⟩ := ih x h.1
        obtain ⟨i1, i2, i3⟩ := ihx h.2
        refine ⟨by simp [PyData.canLayAll0, h1, i1], ?_, by simp [PyData.eqvAll, h3, i3]⟩
        simp only [PyData.depthAll]
        omega
    intro d h
    cases d with
    | none => refine ⟨?_, ?_, ?_⟩ <;> simp [PyData.canLay0, PyData.depth, PyData.eqv]
    | bool b => refine ⟨?_, ?_, ?_⟩ <;> simp [PyData.canLay0, PyData.depth, PyData.eqv]
    | int i => refine ⟨?_, ?_, ?_⟩ <;> simp [PyData.canLay0, PyData.depth, PyData.eqv]
    | str x => exact ⟨SeqAt.canLay_of_shaped h, by simp [PyData.depth], by simp [PyData.eqv]⟩
    | dict x => exact Bool.noConfusion (show false = true from h)
    | list xs =>
      obtain ⟨i1, i2, i3⟩ := all xs h
      refine ⟨by simp [PyData.canLay0, i1], ?_, by simp [PyData.eqv, i3]⟩
      simp only [PyData.depth]
      omega
    | tuple xs =>
      obtain ⟨i1, i2, i3⟩ := all xs h
      refine ⟨by simp [PyData.canLay0, i1], ?_, by simp [PyData.eqv, i3]⟩
      simp only [PyData.depth]
      omega
theorem okE_shaped {n : Nat} {d : PyData} (h : okE n d = true) (hn : n ≤ 64) : SeqAt.shaped d = true := by
  obtain ⟨h1, h2, _⟩ := okE_out n d h
  unfold SeqAt.shaped
  rw [h1, decide_eq_true (by omega)]
  rfl
theorem eqE_same (n : Nat) {d : PyData} (h : okE n d = true) (hn : n ≤ 64) : eqD d d = some (.bool true) := by
  unfold eqD
  rw [okE_shaped h hn, (okE_out n d h).2.2]
  rfl
theorem neE_same (n : Nat) {d : PyData} (h : okE n d = true) (hn : n ≤ 64) : neD d d = some (.bool false) := by
  unfold neD
  rw [okE_shaped h hn, (okE_out n d h).2.2]
  rfl
/-- a slot that may be set -/
def frB : Sl → Bool
  | .p _ => false
  | _ => true
theorem canSet_fr (e : En) (i : Nat) : canSet e i = (match e[i]? with | some s => frB s | none => false) := by
  unfold canSet
  cases h : e[i]? with
  | none => rfl
  | some s => cases s <;> rfl
@[simp] theorem frB_no : frB .no = true := rfl
@[simp] theorem frB_d (x : PyData) : frB (.d x) = true := rfl
@[simp] theorem frB_o (x : List PyData) : frB (.o x) = true := rfl
end
end Fd
end

section
set_option Elab.async false
set_option linter.all false
set_option maxRecDepth 100000
set_option maxHeartbeats 1000000
/-! Walks by meaning 16: a def handed in as an argument, that says True of all items of a row. -/
variable [Fd.Uw]
namespace Fd
open PySem PySem.Spec PyProof.Rows L2 Evl Tb
/-- f(row, a) where a stands at the address a and says True of each item: None -/
def spW (K : PySem.W.Frag) (F : List PyData → Option PyData) (a : Addr) : Sp := fun vs H Q _ => ∃ (B : Hp) (v1 : V) (b : Bool) (ds : List PyData), vs = [v1, .ref a] ∧ Ex B H ∧ Dq K B v1 (rows b ds) ∧ (∀ d ∈ ds, F [d] = some (.bool true)) ∧ ∀ H', Ex H H' → Q .non H'
theorem spW_len {K : PySem.W.Frag} {F : List PyData → Option PyData} {a : Addr} {ps : List Str} (hn : 2 = ps.length) : ∀ vs H Q E, spW K F a vs H Q E → vs.length = ps.length := fun vs H Q E h => by
  obtain ⟨_, _, _, _, rfl, _⟩ := h
  exact hn
def saysT (F : List PyData → Option PyData) (d : PyData) : Bool := match F [d] with
  | some (.bool true) => true
  | _ => false
theorem saysT_out {F : List PyData → Option PyData} {d : PyData} (h : saysT F d = true) : F [d] = some (.bool true) := by
  unfold saysT at h
  split at h
  · assumption
  · cases h
def dFw (F : List PyData → Option PyData) (f : Dn PyData) : Dn PyData := dBind f fun d => match itemsOf d with
  | some ds => if ds.all (saysT F) = true then dK .none else fun _ => none
  | none => fun _ => none
theorem items_isRows {d : PyData} {ds : List PyData} (h : itemsOf d = some ds) : ∃ b, d = rows b ds := by
  cases d <;> cases h
  · exact ⟨true, rfl⟩
  · exact ⟨false, rfl⟩
section
variable {K : PySem.W.Frag} {te : TE} {f : Dn PyData} {E : XK}
theorem se_fw {F : List PyData → Option PyData} {a : Addr} (h : SE K te f) : SE K (tCall (spW K F a) [] E (tCons te (tCons (tC (.ref a)) tNil))) (dFw F f) := fun W hW σ e B H at_ d e' h' Q q => by
  obtain ⟨x, e1, h1, h2⟩ := dBind_some h'
  have h3 : (match itemsOf x with
    | some ds => if ds.all (saysT F) = true then dK PyData.none else fun _ => none
    | none => fun _ => none) e1 = some (d, e') := h2
  cases hds : itemsOf x with
  | none =>
    rw [hds] at h3
    cases h3
  | some ds =>
    rw [hds] at h3
    by_cases hall : ds.all (saysT F) = true
    · have h4 : (if ds.all (saysT F) = true then dK PyData.none else fun _ => none) e1 = some (d, e') := h3
      rw [if_pos hall] at h4
      obtain ⟨rfl, rfl⟩ := dK_some h4
      obtain ⟨b, rfl⟩ := items_isRows hds
      rw [List.all_eq_true] at hall
      exact h W hW σ e B H at_ _ _ h1 _ fun v B1 H1 a1 g1 d1 => ⟨B1, v, b, ds, rfl, a1.ex, d1, fun d hd => saysT_out (hall d hd), fun H2 e2 => q _ B1 H2 (a1.gr (Gr.ex a1.ex e2)) (g1.trans (gx_gr (Gr.ex a1.ex e2))) .non⟩
    · have h4 : (if ds.all (saysT F) = true then dK PyData.none else fun _ => none) e1 = some (d, e') := h3
      rw [if_neg hall] at h4
      cases h4
end
/-- a def by another name of the module -/
theorem has_ofA {P : Program} {w : World} {K : PySem.W.Frag} {mg : Str → Option Value} {base : Heap} {CX : CXT} {x y qual : Str} {st : Stmt} {f : Addr} {fd : FuncData} {k : Nat} {ps : List Str} {sp : Sp}
    (F : FunD K y qual (defArgs st) (defBody st) (defScope st) [] [] f fd) (hm : mg x = some (.ref f)) (ok : FnOk P w K mg base CX k f fd ps sp)
    (h : ∀ (kV doc pm : Value) (an : Option Addr) (cdv ct : Value) (us : List Value), us.length = ps.length → bindArgs (PySem.W.fnOf y qual (defArgs st) (defBody st) (defScope st) .none kV doc pm an cdv ct) ⟨us, []⟩ = pure (ps.zip us)) :
    Has P w K mg base CX x k ps [] sp := by
  refine ⟨f, fd, [], ok, hm, F.kp, .nil, ?_⟩
  obtain ⟨oc, od, dV, kV, doc, pm, an, cdv, ct, osl, rfl, lk, hcd, hD, hK⟩ := F.ex
  rcases hD with ⟨_, rfl⟩ | ⟨e, _⟩
  · exact .all (h kV doc pm an cdv ct)
  · exact absurd rfl e

theorem has_mkA {P : Program} {w : World} {K : PySem.W.Frag} {mg : Str → Option Value} {base : Heap} {CX : CXT} {x y qual : Str} {st : Stmt} {f : Addr} {fd : FuncData} {k : Nat} {N ps : List Str} {sp : Sp}
    (F : FunD K y qual (defArgs st) (defBody st) (defScope st) [] [] f fd) (hm : mg x = some (.ref f)) (S : FnScope N ps (defScope st)) (len : ∀ vs H Q E, sp vs H Q E → vs.length = ps.length)
    (h : ∀ (kV doc pm : Value) (an : Option Addr) (cdv ct : Value) (us : List Value), us.length = ps.length → bindArgs (PySem.W.fnOf y qual (defArgs st) (defBody st) (defScope st) .none kV doc pm an cdv ct) ⟨us, []⟩ = pure (ps.zip us))
    (body : ∀ (cdv : Value) (A : Around) (outer : List Env) (s : Shared) (H : Hp) (vs : List V) (Q : VK) (E : XK), Room k (A.deeper (envOfC qual (defScope st) s.heap.objs.size f cdv)) → sp vs H Q E →
      ∃ t, PSs (cxOf CX P w K mg base N qual (defScope st) f cdv A outer s H E).nox (defBody st) t ∧ t { nx := fun _ H' => Q .non H', rt := Q } (start N vs) H) :
    Has P w K mg base CX x (k + 1) ps [] sp :=
  has_ofA F hm (F.ok S len fun cdv A outer s H vs Q E hr hs => by
    obtain ⟨t, h1, h2⟩ := body cdv A outer s H vs Q E hr hs
    exact ⟨t, h1.nox, h2⟩) h
/-- CX lets nothing out at all -/
def NoY (CX : CXT) : Prop := ∀ X : Cx, Passes CX X E0
theorem noY0 : NoY CX0 := fun _ => pass0
end Fd
end

section
set_option Elab.async false
set_option linter.all false
set_option maxRecDepth 100000
set_option maxHeartbeats 1000000
/-! Walks by meaning 17: lists of one's own that are read as data for a while, and changed behind that. -/
variable [Fd.Uw]
namespace Fd
open PySem PySem.Spec PyProof.Rows L2 Evl Tb
open Classical in
/-- what is owned is known, for the time of one expression -/
noncomputable def borH (σ : L2.St) (e : En) (B H : Hp) : Hp := fun b => if Ow σ e b then H b else B b
def frzS : Sl → Sl
  | .o xs => .d (.list xs)
  | .p xs => .d (.list xs)
  | .q xs => .d (.dict xs)
  | .u _ => .no
  | s => s
def frz (e : En) : En := e.map frzS
theorem frz_get {e : En} {i : Nat} {s : Sl} (h : (frz e)[i]? = some s) : ∃ t, e[i]? = some t ∧ s = frzS t := by
  unfold frz at h
  rw [List.getElem?_map] at h
  obtain ⟨t, h1, h2⟩ := Option.map_eq_some_iff.mp h
  exact ⟨t, h1, h2.symm⟩
theorem frz_no {e : En} {i : Nat} {s : Sl} (h : (frz e)[i]? = some s) : s.own = none := by
  obtain ⟨t, _, rfl⟩ := frz_get h
  cases t <;> rfl
section
variable {K : PySem.W.Frag} {W : Wo} {σ : L2.St} {e : En} {B H H1 : Hp} {te : TE}
theorem no_ow_frz (b : Addr) : ¬ Ow σ (frz e) b := fun ⟨i, s, xs, h1, h2, _⟩ => by
  rw [frz_no h1] at h2
  cases h2
theorem At.bor (a : At W σ e B H) : At ⟨W.K, W.M, fun _ => none⟩ σ (frz e) (borH σ e B H) H := by
  have hx : Ex B (borH σ e B H) := fun b o h => by
    unfold borH
    by_cases c : Ow σ e b
    · have := (a.ow c).2.2
      rw [this] at h
      cases h
    · rw [if_neg c]
      exact h
  refine ⟨fun b o h => ?_, a.nm, by unfold frz; rw [List.length_map]; exact a.len, fun i x h => ?_, fun i s xs h1 h2 => ?_, fun i j s t p xs ys h1 h2 _ _ _ _ => ?_, fun i b h => nomatch h⟩
  · unfold borH at h
    by_cases c : Ow σ e b
    · rw [if_pos c] at h
      exact h
    · rw [if_neg c] at h
      exact a.ex b o h
  · obtain ⟨t, h1, h2⟩ := frz_get h
    have key : ∀ ys, t.own = some ys → ys.isU = false → x = ys.da → ∃ v, σ[i]? = some (some v) ∧ Dq W.K (borH σ e B H) v x := fun ys ho hu hy => by
      obtain ⟨p, vs, g1, g2, g3, g4, g5⟩ := a.own i t ys h1 ho
      refine ⟨_, g1, ?_⟩
      rw [hy]
      refine (cn_mono hx g5).dq hu ?_
      unfold borH
      rw [if_pos ⟨i, t, ys, h1, ho, g1⟩]
      exact g4
    cases t with
    | no => cases h2
    | d y =>
      cases h2
      obtain ⟨v, g1, g2⟩ := a.dat i x h1
      exact ⟨v, g1, dp_mono hx g2⟩
    | o ys =>
      cases h2
      exact key (.l ys) rfl rfl rfl
    | p ys =>
      cases h2
      exact key (.l ys) rfl rfl rfl
    | q ys =>
      cases h2
      exact key (.q ys) rfl rfl rfl
    | u ys => cases h2
  · rw [frz_no h1] at h2
    cases h2
  · rw [frz_no h1] at h2
    cases h2
theorem At.keep (a : At W σ e B H) (x : Ex H H1) : At W σ e B H1 where
  ex := fun b o h => x b o (a.ex b o h)
  nm := fun b h => a.nm b (fresh_back x h)
  len := a.len
  dat := a.dat
  own := fun i s xs h1 h2 => by
    obtain ⟨p, vs, g1, g2, g3, g4, g5⟩ := a.own i s xs h1 h2
    exact ⟨p, vs, g1, g2, g3, x _ _ g4, g5⟩
  sep := a.sep
  pin := a.pin
theorem gx_keep (x : Ex H H1) : Gx σ e B H e B H1 := ⟨⟨Ex.refl B, fun b o _ h => x b o h, fun b h => fresh_back x h, fun b _ h _ => h⟩, fun _ h => h⟩
/-- no address in it -/
def flatD : PyData → Bool
  | .int _ => true
  | .bool _ => true
  | .none => true
  | .str _ => true
  | _ => false
theorem flat_dp {d : PyData} {v : V} {B1 B2 : Hp} (h : flatD d = true) (g : Dq K B1 v d) : Dq K B2 v d := by
  cases g <;> first | exact Bool.noConfusion (show false = true from h) | constructor
theorem flat_dpa {B1 B2 : Hp} : ∀ {ds : List PyData} {vs : List V}, ds.all flatD = true → DqAll K B1 vs ds → DqAll K B2 vs ds
  | _, _, _, .nil => .nil
  | _, _, h, .cons a b => by
    rw [List.all_cons, Bool.and_eq_true] at h
    exact .cons (flat_dp h.1 a) (flat_dpa h.2 b)
def dBor (f : Dn PyData) : Dn PyData := fun e => match f (frz e) with
  | some (x, _) => if flatD x = true then some (x, e) else none
  | none => none
def dBorL (f : Dn (List PyData)) : Dn (List PyData) := fun e => match f (frz e) with
  | some (xs, _) => if xs.all flatD = true then some (xs, e) else none
  | none => none
theorem se_bor {f : Dn PyData} (h : SE K te f) : SE K te (dBor f) := fun W hW σ e B H a d e' hd Q q => by
  unfold dBor at hd
  split at hd
  · rename_i x e1 hf
    by_cases c : flatD x = true
    · rw [if_pos c] at hd
      cases hd
      refine h ⟨W.K, W.M, fun _ => none⟩ hW σ (frz e) _ H a.bor d e1 hf _ fun v B1 H1 a1 g1 dp => ?_
      have x : Ex H H1 := fun b o hb => g1.go.fr b o (no_ow_frz b) hb
      exact q v B H1 (a.keep x) (gx_keep x) (flat_dp c dp)
    · rw [if_neg c] at hd
      cases hd
  · cases hd
theorem sl_bor {f : Dn (List PyData)} (h : SL K te f) : SL K te (dBorL f) := fun W hW σ e B H a d e' hd Q q => by
  unfold dBorL at hd
  split at hd
  · rename_i xs e1 hf
    by_cases c : xs.all flatD = true
    · rw [if_pos c] at hd
      cases hd
      refine h ⟨W.K, W.M, fun _ => none⟩ hW σ (frz e) _ H a.bor d e1 hf _ fun p vs B1 H1 a1 g1 p0 hp pB dp => ?_
      have x : Ex H H1 := fun b o hb => g1.go.fr b o (no_ow_frz b) hb
      exact q p vs B H1 (a.keep x) (gx_keep x) p0 hp (by
        cases hb : B p with
        | none => rfl
        | some o =>
          have := a.ex p o hb
          rw [p0] at this
          cases this) (flat_dpa c dp)
    · rw [if_neg c] at hd
      cases hd
  · cases hd
end
@[simp] theorem dBor_e {f : Dn PyData} {e : En} : dBor f e = (match f (frz e) with
  | some (x, _) => if flatD x = true then some (x, e) else none
  | none => none) := rfl
@[simp] theorem dBorL_e {f : Dn (List PyData)} {e : En} : dBorL f e = (match f (frz e) with
  | some (xs, _) => if xs.all flatD = true then some (xs, e) else none
  | none => none) := rfl
@[simp] theorem frz_nil : frz [] = [] := rfl
@[simp] theorem frz_cons {s : Sl} {e : En} : frz (s :: e) = frzS s :: frz e := rfl
@[simp] theorem frzS_no : frzS .no = .no := rfl
@[simp] theorem frzS_d {x : PyData} : frzS (.d x) = .d x := rfl
@[simp] theorem frzS_o {xs : List PyData} : frzS (.o xs) = .d (.list xs) := rfl
@[simp] theorem frzS_p {xs : List PyData} : frzS (.p xs) = .d (.list xs) := rfl
@[simp] theorem flat_int (i : Int) : flatD (.int i) = true := rfl
@[simp] theorem flat_bool (b : Bool) : flatD (.bool b) = true := rfl
theorem flat_ints : ∀ ns : List Int, (ns.map PyData.int).all flatD = true
  | [] => rfl
  | n :: ns => by rw [List.map_cons, List.all_cons, flat_ints ns]; rfl
end Fd
end

section
set_option Elab.async false
set_option linter.all false
set_option maxRecDepth 100000
set_option maxHeartbeats 1000000
/-! Walks by meaning 18: zip of rows of which one may be a list, the other a tuple. -/
variable [Fd.Uw]
namespace Fd
open PySem PySem.Spec PyProof.Rows L2 Evl Tb
def SqU : Bool → PySem.W.Frag → Hp → Addr → List V → Prop
  | true => SqL
  | false => SqT
def seU : Bool → Heap → Addr → Array Value → Prop
  | true => fun h l its => h.IsList l its
  | false => fun h l its => h.IsTuple l its
def itU : Bool → Heap → Addr → Addr → Nat → Prop
  | true => fun h it l i => h.IsListIter it l i
  | false => fun h it l i => h.IsTupleIter it l i
def obU : Bool → Addr → Obj
  | true => fun l => { cls := .type "list_iterator", data := .fields #[.ref l, .int 0 0] }
  | false => fun l => { cls := .type "tuple_iterator", data := .fields #[.ref l, .int 0 0] }
section
variable {prog : Program} {w : World} {A : Around}
theorem drU (hh : A.handled = none) (b : Bool) {it l : Addr} (hne : l ≠ it) (its : Array Value) : Draws prog w A it [it, l] its.size (fun i v => its[i]? = some v) fun i h => itU b h it l i ∧ seU b h l its := by
  cases b
  · exact Draws.tuple hh it l hne its
  · exact Draws.list hh it l hne its
theorem bgU (b : Bool) (l : Addr) (its : Array Value) : Begins (.ref l) (obU b l) fun h => seU b h l its := by
  cases b
  · exact begins_tuple l its
  · exact begins_list l its
end
section
variable {b : Bool} {h h' : Heap} {it l : Addr} {i : Nat} {its : Array Value}
theorem it0U (e : h.get? it = some (obU b l)) : itU b h it l 0 := by
  cases b
  · exact ⟨_, e, rfl, rfl⟩
  · exact ⟨_, e, rfl, rfl⟩
theorem itU_obj (x : itU b h it l i) : ∃ o, h.get? it = some o ∧ ∀ v, o.data ≠ .cell v := by
  cases b <;> (obtain ⟨o, e, _, d⟩ := x; exact ⟨o, e, fun v q => by rw [d] at q; cases q⟩)
theorem itU_at (x : itU b h it l i) (k : ∀ o, h.get? it = some o → h'.get? it = some o) : itU b h' it l i := by
  cases b
  · exact Heap.IsTupleIter.at x k
  · exact Heap.IsListIter.at x k
theorem itU_lt (x : itU b h it l i) : it < h.objs.size := by
  obtain ⟨o, e, _⟩ := itU_obj x
  exact Heap.lt_size e
theorem seU_lt (x : seU b h l its) : l < h.objs.size := by
  cases b
  · obtain ⟨o, e, _⟩ := id (show h.IsTuple l its from x)
    exact Heap.lt_size e
  · obtain ⟨o, e, _⟩ := id (show h.IsList l its from x)
    exact Heap.lt_size e
end
section
variable {X : Cx} {pins : List (Addr × Obj)} {σ : L2.St} {H : Hp} {s : Shared} {b : Bool} {a : Addr} {xs ys : List V}
theorem invU (I : Inv X pins σ H s) (q : SqU b X.K H a xs) : ∃ its : List Value, Vals xs its ∧ seU b s.heap a its.toArray := by
  cases b
  · obtain ⟨its, rv, p, _⟩ := I.tuple q
    exact ⟨its, rv, p⟩
  · obtain ⟨its, rv, p, _⟩ := I.list q
    exact ⟨its, rv, p.isList⟩
theorem injU (I : Inv X pins σ H s) (q : SqU b X.K H a xs) (r : SqU b X.K H a ys) : xs = ys := by
  cases b
  · exact I.tuple_inj q r
  · exact I.list_inj q r
end
def ItU (K : PySem.W.Frag) (k1 k2 : Bool) (a b : Addr) : It where
  go := fun i H => ∃ (xs ys : List V) (x y : V), (SqU k1 K H a xs ∧ SqU k2 K H b ys) ∧ xs[i]? = some x ∧ ys[i]? = some y
  yld := fun i H v H' => ∃ T x y, (v = .ref T ∧ H T = none ∧ H' = upd H T (.tup [x, y])) ∧ (∀ xs, SqU k1 K H a xs → xs[i]? = some x) ∧ ∀ ys, SqU k2 K H b ys → ys[i]? = some y
  stop := fun i H => ∃ xs ys : List V, (SqU k1 K H a xs ∧ SqU k2 K H b ys) ∧ i = min xs.length ys.length
theorem sepU {z TI TO i1 i2 a b : Addr} (D : ZipApart z TI TO i1 i2 a b) : ZipSep2 z TI TO i1 i2 [i1, a] [i2, b] where
  TIz := D.TIz
  TOz := D.TOz
  TITO := D.TITO
  TIi1 := D.TIi1
  TIi2 := D.TIi2
  mem1 := List.mem_cons_self
  mem2 := List.mem_cons_self
  zf1 := by simp [D.i1z.symm, D.l1z.symm]
  zf2 := by simp [D.i2z.symm, D.l2z.symm]
  Tf1 := by simp [D.TOi1, D.l1TO.symm]
  Tf2 := by simp [D.TOi2, D.l2TO.symm]
  sep1_2 := by simp [D.i12, D.l2i1.symm]
  sep2_1 := by simp [D.i12.symm, D.l1i2.symm]
/-- how far a zip has come -/
structure ZsU (k1 k2 : Bool) (a b z TI TO i1 i2 : Addr) (i : Nat) (h : Heap) : Prop where
  zi : IsZip h z TI TO .none
  ti : IsTupOf2 h TI (.ref i1) (.ref i2)
  to : ∃ x y, IsTupOf2 h TO x y
  s1 : itU k1 h i1 a i
  s2 : itU k2 h i2 b i
theorem mem5 {α : Type} {c a1 a2 a3 a4 a5 : α} {p : α → Prop} (hc : c ∈ [a1, a2, a3, a4, a5]) (h1 : p a1) (h2 : p a2) (h3 : p a3) (h4 : p a4) (h5 : p a5) : p c := by
  simp only [List.mem_cons, List.not_mem_nil, or_false] at hc
  rcases hc with rfl | rfl | rfl | rfl | rfl <;> assumption
theorem turnU {P : Program} {w : World} {K : PySem.W.Frag} {elts : List Expr} {kk : Nat} {tpos : Pos} {k1 k2 : Bool} {a b z TI TO i1 i2 : Addr} (D : ZipApart z TI TO i1 i2 a b) :
    Turn P w K (.Tuple elts kk tpos) (ItU K k1 k2 a b) [z, TI, TO, i1, i2] z (ZsU k1 k2 a b z TI TO i1 i2) where
  mem := List.mem_cons_self
  obj := fun i h st c hc => by
    obtain ⟨x, y, hO⟩ := st.to
    refine mem5 (p := fun c => ∃ o, h.get? c = some o ∧ ∀ v, o.data ≠ .cell v) hc ⟨_, st.zi, fun v q => by cases q⟩ ⟨_, st.ti, fun v q => by cases q⟩ ⟨_, hO, fun v q => by cases q⟩ (itU_obj st.s1) (itU_obj st.s2)
  keep := fun i h h' st k => by
    obtain ⟨x, y, hO⟩ := st.to
    exact ⟨k z (by simp) _ st.zi, k TI (by simp) _ st.ti, ⟨x, y, k TO (by simp) _ hO⟩, itU_at st.s1 (k i1 (by simp)), itU_at st.s2 (k i2 (by simp))⟩
  item := by
    intro X hP hw hK hc i pins s σ H E I hf st hg
    subst hP hw hK
    obtain ⟨x0, y0, hO⟩ := st.to
    obtain ⟨xs, ys, x, y, ⟨q1, q2⟩, hx, hy⟩ := hg
    obtain ⟨v1, rv1, p1⟩ := invU I q1
    obtain ⟨v2, rv2, p2⟩ := invU I q2
    obtain ⟨u1, hu1, ru1⟩ := rv1.get hx
    obtain ⟨u2, hu2, ru2⟩ := rv2.get hy
    have n1 := (List.getElem?_eq_some_iff.mp hu1).1
    have n2 := (List.getElem?_eq_some_iff.mp hu2).1
    have zlt : z < s.heap.objs.size := Heap.lt_size st.zi
    have hd := I.ok.hd hc
    refine wpAny_pyNext_zipD2_item (sepU D) (drU (A := X.A.in1) hd k1 D.l1i1 v1.toArray) (drU (A := X.A.in1) hd k2 D.l2i2 v2.toArray) st.zi st.ti hO ⟨st.s1, p1⟩ ⟨st.s2, p2⟩ (by simpa using n1) (by simpa using n2) ?_
    intro w1 w2 h1 tk e1 e2 z1 o1 ⟨s1, _⟩ ⟨s2, _⟩ t1 sz hk
    have e1' : w1 = u1 := by
      have e : v1.toArray[i]? = some w1 := e1
      simp only [List.getElem?_toArray] at e
      rw [hu1] at e
      cases e
      rfl
    have e2' : w2 = u2 := by
      have e : v2.toArray[i]? = some w2 := e2
      simp only [List.getElem?_toArray] at e
      rw [hu2] at e
      cases e
      rfl
    subst e1' e2'
    refine ⟨_, rfl, wpAny_letOwnedTupleGo_zip (s := { s with heap := h1, toks := tk }) z1 ?_⟩
    intro h2 z2 sb
    have bt : ∀ c, c ≠ z → ∀ o, h1.get? c = some o → h2.get? c = some o := fun c hc o e => (sb.2 c hc).trans e
    have t2 := bt _ (Nat.ne_of_gt zlt) _ t1
    have nw : ObjOk X.prog X.w (upd H s.heap.objs.size (.tup [x, y])) h2 s.heap.objs.size (.tup [x, y]) := by
      refine ⟨?_, [w1, w2], .cons ru1 (.cons ru2 .nil), _, t2, rfl, _, rfl⟩
      show 2 ≤ sizeLine
      decide
    have kp : ∀ c, c ∉ [z, TI, TO, i1, i2] → ∀ o, s.heap.get? c = some o → h2.get? c = some o := fun c hb o q => by
      simp only [List.mem_cons, List.not_mem_nil, or_false, not_or] at hb
      exact bt c hb.1 o (hk c o hb.1 hb.2.2.1 hb.2.2.2.1 hb.2.2.2.2 q)
    have I2 : Inv X pins σ (upd H s.heap.objs.size (.tup [x, y])) { s with heap := h2, toks := tk } := I.turnedNew (ch := [z, TI, TO, i1, i2]) (t' := tk) (fun c o hb q => kp c hb o q) hf (Nat.le_refl _) nw
    refine ⟨.ref s.heap.objs.size, _, I2, rfl, ⟨_, x, y, ⟨rfl, I.hok.fresh (Nat.le_refl _), rfl⟩, fun l hl => ?_, fun l hl => ?_⟩, ⟨z2, ?_, ⟨w1, w2, bt _ D.TOz _ o1⟩, ?_, ?_⟩, fun c hcm => ?_⟩
    · rw [injU I hl q1]
      exact hx
    · rw [injU I hl q2]
      exact hy
    · exact bt _ D.TIz _ (hk _ _ D.TIz D.TITO D.TIi1 D.TIi2 st.ti)
    · exact itU_at s1 (bt i1 D.i1z)
    · exact itU_at s2 (bt i2 D.i2z)
    · have hlt : c < s.heap.objs.size := mem5 (p := fun c => c < s.heap.objs.size) hcm zlt (Heap.lt_size st.ti) (Heap.lt_size hO) (itU_lt st.s1) (itU_lt st.s2)
      rw [upd_ne (Nat.ne_of_lt hlt)]
      exact (hf c hcm).1
  done := by
    intro X hP hw hK hc i pins s σ H E I hf st hg
    subst hP hw hK
    obtain ⟨x0, y0, hO⟩ := st.to
    obtain ⟨xs, ys, ⟨q1, q2⟩, hend⟩ := hg
    obtain ⟨v1, rv1, p1⟩ := invU I q1
    obtain ⟨v2, rv2, p2⟩ := invU I q2
    have l1 := rv1.length
    have l2 := rv2.length
    have hd := I.ok.hd hc
    refine wpAny_pyNext_zipD2_end (sepU D) (drU (A := X.A.in1) hd k1 D.l1i1 v1.toArray) (drU (A := X.A.in1) hd k2 D.l2i2 v2.toArray) st.zi st.ti hO ⟨st.s1, p1⟩ ⟨st.s2, p2⟩ (by simp; omega) (by simp; omega) (by simp; omega) ?_
    intro h1 tk hk
    refine ⟨rfl, I.turnedL (ch := [z, TI, TO, i1, i2]) (t' := tk) (fun c o hb q => ?_) hf⟩
    simp only [List.mem_cons, List.not_mem_nil, or_false, not_or] at hb
    exact hk c o hb.1 hb.2.2.1 hb.2.2.2.1 hb.2.2.2.2 q
  self := fun A i s Q E st h => wpAny_pyIter_zip st.zi h
def iZipU (K : PySem.W.Frag) (ta : TA) : TI := fun σ H R => ta σ H fun vs H1 => ∃ a b xs ys k1 k2, vs = [.ref a, .ref b] ∧ (SqU k1 K H1 a xs ∧ SqU k2 K H1 b ys) ∧ R (ItU K k1 k2 a b) H1
theorem pi_zipU {X : Cx} {e e2 : Expr} {ta : TA} {p pos tpos : Pos} {elts : List Expr} {kk : Nat} (hg : Gl X "zip") (hm : X.mg "zip" = none) (ha : PA X [e, e2] ta)
    (hs : starEach [e, e2] X.env = (false, eval e X.env) :: starEach [e2] X.env := by rfl)
    (hpl : (backTo pos (starEach [e2] X.env)).any (·.1) = false := by rfl) : PI X (.Tuple elts kk tpos) (.Call (.Name "zip" p) [e, e2] [] pos) (iZipU X.K ta) := by
  refine ⟨fun pins s σ H R I h => Call_ (ld_blt I hg hm PyProof.Rows.boot_zip (callWith_type1 (thn (ha.run pos pins s σ H _ I h) ?_) hs hpl))⟩
  intro us s1 ⟨vs, H1, I1, r1, a, b, xs, ys, k1, k2, ex, ⟨q1, q2⟩, q⟩
  subst ex
  match r1 with
  | .cons r (.cons r' .nil) =>
    cases r
    cases r'
    obtain ⟨v1, rv1, p1⟩ := invU I1 q1
    obtain ⟨v2, rv2, p2⟩ := invU I1 q2
    refine zip_begins2 (bgU k1 a v1.toArray) (bgU k2 b v2.toArray) p1 p2 ?_
    intro h' hz hT hO g1 g2 sz hk
    refine wpAny_pyIter_zip hz ?_
    have I2 : Inv X pins σ H1 { s1 with heap := h' } := I1.kept (t' := s1.toks) hk
    refine ⟨s1.heap.objs.size + 4, _, _, _, H1, rfl, I2, turnU (PySem.W.ktu_apart s1.heap.objs.size a b (seU_lt p1) (seU_lt p2)), ⟨hz, hT, ⟨_, _, hO⟩, it0U g1, it0U g2⟩, ?_, q⟩
    intro c hc
    have hle : s1.heap.objs.size ≤ c := mem5 (p := fun c => s1.heap.objs.size ≤ c) hc (Nat.le_add_right _ _) (Nat.le_add_right _ _) (Nat.le_add_right _ _) (Nat.le_refl _) (Nat.le_add_right _ _)
    exact I1.fpOk hle (I1.hok.fresh hle)
section
variable {K : PySem.W.Frag} {tr : TA} {fl : Dn (List PyData)} {a b : Addr} {xs ys : List V} {k1 k2 : Bool}
theorem walkU : Walk (ItU K k1 k2 a b) (min xs.length ys.length) (fun H => SqU k1 K H a xs ∧ SqU k2 K H b ys) (YPair (fun i => xs[i]?) fun i => ys[i]?) where
  goes := fun i H hi q => ⟨xs, ys, xs[i]'(by omega), ys[i]'(by omega), q, List.getElem?_eq_getElem _, List.getElem?_eq_getElem _⟩
  stops := fun H q => ⟨xs, ys, q, rfl⟩
  yields := fun i H v H' _ q ⟨T, x, y, ⟨h1, h2, h3⟩, h4, h5⟩ => ⟨T, x, y, h1, h2, h3, h4 xs q.1, h5 ys q.2⟩
theorem exU {B H : Hp} (e : Ex B H) (q : SqU k1 K B a xs) : SqU k1 K H a xs := by
  cases k1
  · exact ex_t e q
  · exact ex_l e q
theorem dp_rowU {B : Hp} {v : V} {d : PyData} {ds : List PyData} (hi : itemsOf d = some ds) (h : Dq K B v d) : ∃ k p us, v = .ref p ∧ SqU k K B p us ∧ DqAll K B us ds := by
  cases d with
  | list zs =>
    cases hi
    obtain ⟨p, us, rfl, h1, h2⟩ := h.lst_of
    exact ⟨true, p, us, rfl, h1, h2⟩
  | tuple zs =>
    cases hi
    obtain ⟨p, us, rfl, h1, h2⟩ := h.tup_of
    exact ⟨false, p, us, rfl, h1, h2⟩
  | _ => cases hi
def dZipU (f : Dn (List PyData)) : Dn (List PyData) := dBind f fun ds => match ds with
  | [x, y] => dBind (dLift (itemsOf x)) fun xs => dBind (dLift (itemsOf y)) fun ys => if zipOk xs ys = true then dK (zipD xs ys) else fun _ => none
  | _ => fun _ => none
theorem si_zipU (h : SA K tr fl) : SI K (iZipU K tr) (dZipU fl) := fun W hW σ e B H a ds e' h' R q => by
  obtain ⟨d, e1, h1, h2⟩ := dBind_some h'
  split at h2
  · rename_i x y
    obtain ⟨xs, e2, h3, h4⟩ := dBind_some h2
    obtain ⟨i1, rfl⟩ := dLift_some h3
    obtain ⟨ys, e3, h5, h6⟩ := dBind_some h4
    obtain ⟨i2, rfl⟩ := dLift_some h5
    split at h6
    case isFalse => cases h6
    rename_i hzo
    obtain ⟨rfl, rfl⟩ := dK_some h6
    refine h W hW σ e B H a _ _ h1 _ fun vs B1 H1 a1 g1 d1 => ?_
    match d1 with
    | .cons hv (.cons hv2 .nil) =>
      obtain ⟨k1, p, us, rfl, m1, m2⟩ := dp_rowU i1 hv
      obtain ⟨k2, p2, ws, rfl, m3, m4⟩ := dp_rowU i2 hv2
      refine ⟨p, p2, us, ws, k1, k2, rfl, ⟨exU a1.ex m1, exU a1.ex m3⟩, q _ B1 H1 a1 g1 (wk_of walkU ?_ (fun H2 e2 => ⟨exU e2 m1, exU e2 m3⟩) ?_)⟩
      · unfold zipD
        rw [List.length_zipWith, DqAll.length m2, DqAll.length m4]
      · intro i d B2 H2 x H3 e2 e3 hi ⟨T, x', y', hx0, hT, hH, hx, hy⟩
        subst hx0 hH
        obtain ⟨dx, dy, n1, n2, rfl⟩ := zip_get xs ys i d hi
        obtain ⟨d1, n3, n4⟩ := m2.get hx
        obtain ⟨d2, n5, n6⟩ := m4.get hy
        rw [n1] at n3
        rw [n2] at n5
        cases n3
        cases n5
        have gr : Gr B2 H2 (upd B2 T (.tup [x', y'])) (upd H2 T (.tup [x', y'])) := Gr.new e3 hT
        have g2 := e2.trans gr.hg
        exact ⟨_, gr, .tupN (st_of upd_same) (.cons (dp_mono g2 n4) (.cons (dp_mono g2 n6) .nil)) (zip_no hzo (List.mem_of_getElem? n1) (List.mem_of_getElem? n2))⟩
  · cases h2
end
@[simp] theorem dZipU_e {f : Dn (List PyData)} {e : En} : dZipU f e = dBind f (fun ds => match ds with
  | [x, y] => dBind (dLift (itemsOf x)) fun xs => dBind (dLift (itemsOf y)) fun ys => if zipOk xs ys = true then dK (zipD xs ys) else fun _ => none
  | _ => fun _ => none) e := rfl
end Fd
end

section
set_option Elab.async false
set_option linter.all false
set_option maxRecDepth 100000
set_option maxHeartbeats 1000000
/-! Walks by meaning 19: sorted of a list of ints, or of pairs of ints. -/
variable [Fd.Uw]
namespace Fd
open PySem PySem.Spec PyProof.Rows L2 Evl Tb
/-- the items of xs, each with its pair -/
def rSortedPU (K : PySem.W.Frag) : List V → Hp → VK → Prop := fun vs H Q => ∃ (a : Addr) (xs : List V) (ps : List (Int × Int)), (vs = [.ref a] ∧ SqL K H a xs ∧ xs.length = ps.length) ∧ (∀ z ∈ xs.zip ps, ∃ t, z.1 = V.ref t ∧ SqT K H t [.int z.2.1, .int z.2.2]) ∧
  ∀ (zs : List (V × Int × Int)) p, zs.Perm (xs.zip ps) → zs.Pairwise (fun x y => SrtO.lexB y.2 x.2 = false) → H p = none → Q (.ref p) (upd H p (.lst (zs.map (·.1))))
open Classical in
noncomputable def pickK (L : List (V × Int × Int)) (x : V) : Int × Int := if h : ∃ p, (x, p) ∈ L then h.choose else (0, 0)
theorem cr_sortedPU {X : Cx} : CallR X (.builtin "sorted") (rSortedPU X.K) := by
  intro pins s σ H vs us Q I r h
  obtain ⟨a, xs, ps, ⟨rfl, hs, hl⟩, hx, q⟩ := h
  obtain ⟨its, rv, pl, hz⟩ := I.list hs
  obtain ⟨u, rfl, ru⟩ := vals1 r
  cases ru
  have hk : ∀ z ∈ xs.zip ps, pickK (xs.zip ps) z.1 = z.2 := fun z hm => by
    have ex : ∃ p, (z.1, p) ∈ xs.zip ps := ⟨z.2, hm⟩
    unfold pickK
    rw [dif_pos ex]
    obtain ⟨t1, e1, s1⟩ := hx _ ex.choose_spec
    obtain ⟨t2, e2, s2⟩ := hx _ hm
    rw [e2] at e1
    cases e1
    have e := I.tuple_inj s1 s2
    simp only [List.cons.injEq, V.int.injEq, and_true] at e
    exact Prod.ext e.1 e.2
  have hxs : xs = (xs.zip ps).map (·.1) := (List.map_fst_zip (by omega)).symm
  have hin : ∀ x ∈ xs, ∃ z ∈ xs.zip ps, z.1 = x := fun x hm => by
    rw [hxs] at hm
    exact List.mem_map.mp hm
  obtain ⟨e1, e2⟩ := refs_back rv fun x m => by
    obtain ⟨z, hm, rfl⟩ := hin x m
    obtain ⟨t, e, _⟩ := hx z hm
    exact ⟨t, e⟩
  refine SrtO.sorted_pairsO (k := fun u => pickK (xs.zip ps) (backV u)) pl.isList (by rw [← rv.length]; exact hz) ?_ ?_
  · intro v hv
    obtain ⟨t, rfl⟩ := e2 v hv
    obtain ⟨z, hm, ez⟩ := hin (.ref t) (by rw [e1]; exact List.mem_map.mpr ⟨_, hv, rfl⟩)
    obtain ⟨t', et, ht⟩ := hx z hm
    rw [ez] at et
    cases et
    have hp := hk z hm
    rw [ez] at hp
    show Srt.IsPair s.heap (.ref t) (pickK (xs.zip ps) (.ref t)).1 (pickK (xs.zip ps) (.ref t)).2
    rw [hp]
    obtain ⟨w, r2, ⟨o, ho, hc, n, hd⟩, _⟩ := I.tuple ht
    obtain ⟨u1, u2, rfl, ri, rj⟩ := vals2 r2
    obtain ⟨t1, rfl⟩ := ri
    obtain ⟨t2, rfl⟩ := rj
    exact ⟨t, o, t1, t2, n, rfl, ho, hc, hd⟩
  · intro h' d out h1 h2 kp hd ⟨n, hn⟩
    have h3 : ∀ u ∈ out, ∃ a, u = Value.ref a := fun u hu => e2 u (h2.perm.mem_iff.mp hu)
    have hp : (out.map backV).Perm xs := by
      conv => rhs; rw [e1]
      exact h2.perm.map backV
    have hp2 : ((out.map backV).map fun y => (y, pickK (xs.zip ps) y)).Perm (xs.zip ps) := by
      have e : xs.map (fun y => (y, pickK (xs.zip ps) y)) = xs.zip ps := by
        conv => lhs; rw [hxs]
        rw [List.map_map]
        conv => rhs; rw [← List.map_id (xs.zip ps)]
        apply List.map_congr_left
        intro z hz
        show (z.1, pickK ((xs.zip ps).map (·.1) |>.zip ps) z.1) = z
        rw [← hxs, hk z hz]
      exact (hp.map _).trans (List.Perm.of_eq e)
    have q2 := q _ d hp2 (by
      rw [List.pairwise_map, List.pairwise_map]
      exact h1) (I.hok.fresh hd)
    have e4 : ((out.map backV).map fun y => (y, pickK (xs.zip ps) y)).map (·.1) = out.map backV := by
      rw [List.map_map]
      exact List.map_id' _
    rw [e4] at q2
    refine ⟨.ref d, upd H d (.lst (out.map backV)), I.laid (t' := s.toks) kp hd ⟨?_, out, n, L2.vals_back h3, hn⟩, rfl, q2⟩
    rw [hp.length_eq]
    exact hz
def rSortedU (K : PySem.W.Frag) : List V → Hp → VK → Prop := fun vs H Q => rSortedI K vs H Q ∨ rSortedPU K vs H Q
theorem ck_sortedU {X : Cx} {K : PySem.W.Frag} (h : X.K = K) : CallR X (.builtin "sorted") (rSortedU K) := by
  subst h
  intro pins s σ H vs us Q I r h
  rcases h with h | h
  · exact cr_sortedI pins s σ H vs us Q I r h
  · exact cr_sortedPU pins s σ H vs us Q I r h
abbrev prTup (p : Int × Int) : PyData := .tuple [.int p.1, .int p.2]
def prsOf : List PyData → Option (List (Int × Int))
  | [] => some []
  | .tuple [.int i, .int j] :: ds => (prsOf ds).map ((i, j) :: ·)
  | _ => none
theorem prsOf_some : ∀ {ds : List PyData} {ps : List (Int × Int)}, prsOf ds = some ps → ds = ps.map prTup
  | [], ps, h => by cases h; rfl
  | d :: ds, ps, h => by
    unfold prsOf at h
    split at h
    · cases ‹_ = []›
    · rename_i i j ds' he
      cases he
      obtain ⟨qs, h1, rfl⟩ := Option.map_eq_some_iff.mp h
      rw [prsOf_some h1]
      rfl
    · cases h
theorem prsOf_map : ∀ ps : List (Int × Int), prsOf (ps.map prTup) = some ps
  | [] => rfl
  | p :: ps => by
    rw [List.map_cons, prsOf, prsOf_map ps]
    rfl
def leP (p q : Int × Int) : Bool := !SrtO.lexB q p
def sortP (ps : List (Int × Int)) : List (Int × Int) := ps.mergeSort leP
theorem leP_iff {p q : Int × Int} : leP p q = true ↔ p.1 < q.1 ∨ (p.1 = q.1 ∧ p.2 ≤ q.2) := by
  unfold leP
  rw [Bool.not_eq_true', SrtO.lexB_no]
  omega
theorem sortP_of {ps qs : List (Int × Int)} (hp : qs.Pairwise fun x y => leP x y = true) (h : qs.Perm ps) : qs = sortP ps := by
  have h1 : (sortP ps).Pairwise fun x y => leP x y = true := List.pairwise_mergeSort (le := leP) (fun a b c h1 h2 => by rw [leP_iff] at *; omega) (fun a b => by
    rw [Bool.or_eq_true, leP_iff, leP_iff]
    omega) ps
  refine List.Perm.eq_of_pairwise (fun a b _ _ h1 h2 => ?_) hp h1 (h.trans (List.mergeSort_perm ps leP).symm)
  rw [leP_iff] at h1 h2
  exact Prod.ext (by omega) (by omega)
def sortedUD (ds : List PyData) : Option (List PyData) := match sortedD ds with
  | some z => some z
  | none => match ds with
    | [.list xs] => (prsOf xs).map fun ps => (sortP ps).map prTup
    | _ => none
section
variable {K : PySem.W.Frag} {B : Hp} {tr : TA} {fl : Dn (List PyData)}
theorem pr_of {v : V} {p : Int × Int} (h : Dq K B v (prTup p)) : ∃ t, v = V.ref t ∧ SqT K B t [.int p.1, .int p.2] := by
  obtain ⟨t, us, rfl, h1, h2⟩ := h.tup_of
  cases h2 with
  | cons x h2 =>
    cases h2 with
    | cons y h2 =>
      cases h2
      rw [x.int_of, y.int_of] at h1
      exact ⟨t, rfl, h1⟩
theorem prs_of : ∀ {ps : List (Int × Int)} {xs : List V}, DqAll K B xs (ps.map prTup) → xs.length = ps.length ∧ ∀ z ∈ xs.zip ps, ∃ t, z.1 = V.ref t ∧ SqT K B t [.int z.2.1, .int z.2.2] := by
  intro ps
  induction ps with
  | nil =>
    intro xs h
    cases h
    exact ⟨rfl, fun z h => nomatch h⟩
  | cons p ps ih =>
    intro xs h
    rw [List.map_cons] at h
    cases h with
    | cons h t =>
      obtain ⟨a, b⟩ := ih t
      refine ⟨by rw [List.length_cons, List.length_cons, a], fun z hz => ?_⟩
      rw [List.zip_cons_cons] at hz
      rcases List.mem_cons.mp hz with rfl | hz
      · exact pr_of h
      · exact b z hz
theorem dpa_pairs : ∀ {zs : List (V × Int × Int)}, (∀ z ∈ zs, ∃ t, z.1 = V.ref t ∧ SqT K B t [.int z.2.1, .int z.2.2]) → DqAll K B (zs.map (·.1)) ((zs.map (·.2)).map prTup) := by
  intro zs
  induction zs with
  | nil => exact fun _ => .nil
  | cons z zs ih =>
    intro h
    obtain ⟨t, e, s⟩ := h z List.mem_cons_self
    have h1 : Dq K B z.1 (prTup z.2) := by
      rw [e]
      exact .tupN s (.cons (.int _) (.cons (.int _) .nil)) rfl
    rw [List.map_cons, List.map_cons, List.map_cons]
    exact .cons h1 (ih fun x hx => h x (List.mem_cons_of_mem _ hx))
theorem rf_sortedU (ds z : List PyData) (h : sortedUD ds = some z) : RCDL K (rSortedU K) ds B z := by
  unfold sortedUD at h
  split at h
  · cases h
    exact fun vs H1 x hd Q q => .inl (rf_sorted ds _ (by assumption) vs H1 x hd Q q)
  · split at h
    · obtain ⟨ps, h1, rfl⟩ := Option.map_eq_some_iff.mp h
      rw [prsOf_some h1]
      intro vs H1 x hd Q q
      cases hd with
      | cons hv hd =>
        cases hd
        obtain ⟨a, xs, rfl, k1, k2⟩ := hv.lst_of
        obtain ⟨l, hz⟩ := prs_of k2
        refine .inr ⟨a, xs, ps, ⟨rfl, ex_l x k1, l⟩, fun z hm => ?_, fun zs p hm hp h0 => ?_⟩
        · obtain ⟨t, e, s⟩ := hz z hm
          exact ⟨t, e, ex_t x s⟩
        · have e : zs.map (·.2) = sortP ps := by
            refine sortP_of ?_ ?_
            · rw [List.pairwise_map]
              exact hp.imp fun h => by
                unfold leP
                rw [h]
                rfl
            · have := hm.map (·.2)
              rw [List.map_snd_zip (by omega)] at this
              exact this
          have dz := dpa_pairs (K := K) (B := B) (zs := zs) fun z hz' => hz z (hm.mem_iff.mp hz')
          rw [e] at dz
          exact q p _ B _ (fresh_back x h0) h0 (Gr.mut x h0) upd_same dz
    · cases h
theorem sl_sortedU (h : SA K tr fl) : SL K (tCB (rSortedU K) tr) (dCbL sortedUD fl) := sl_cb (fun B => rf_sortedU) h
end
end Fd
end

section
set_option Elab.async false
set_option linter.all false
set_option maxRecDepth 100000
set_option maxHeartbeats 1000000
/-! Walks by meaning 20: in a tuple of ints. -/
variable [Fd.Uw]
namespace Fd
open PySem PySem.Spec PyProof.Rows L2 Evl Tb
def anyI (k : Int) (ns : List Int) : Bool := ns.any fun n => n == k
def inXD (x y : PyData) : Option PyData := match inUD x y with
  | some z => some z
  | none => match x, y with
    | .int k, .tuple ds => (intsOf ds).map fun ns => .bool (anyI k ns)
    | _, _ => none
def notInXD (x y : PyData) : Option PyData := match notInUD x y with
  | some z => some z
  | none => match x, y with
    | .int k, .tuple ds => (intsOf ds).map fun ns => .bool (!anyI k ns)
    | _, _ => none
theorem inV_ints (k : Int) : ∀ ns : List Int, inV (.int k) (ns.map V.int) = anyI k ns
  | [] => rfl
  | n :: ns => by
    have ih := inV_ints k ns
    unfold inV anyI at ih ⊢
    rw [List.map_cons, List.any_cons, List.any_cons, ih]
    rfl
theorem flatV_ints : ∀ ns : List Int, (ns.map V.int).all flatV = true
  | [] => rfl
  | _ :: ns => by
    rw [List.map_cons, List.all_cons, flatV_ints ns]
    rfl
section
variable {K : PySem.W.Frag} {B : Hp} {ta tb : TE} {f g : Dn PyData}
theorem rf_inX (x y z : PyData) (h : inXD x y = some z) : RD K (rInU K) x y B z := by
  unfold inXD at h
  split at h
  · cases h
    exact rf_inU _ _ _ (by assumption)
  · split at h
    · obtain ⟨ns, h1, rfl⟩ := Option.map_eq_some_iff.mp h
      rw [intsOf_some h1]
      intro a b H1 e hx hy Q q
      obtain ⟨p, us, rfl, k1, k2⟩ := hy.tup_of
      rw [k2.ints] at k1
      rw [hx.int_of]
      refine .inr ⟨p, _, rfl, .inr (ex_t e k1), rfl, flatV_ints ns, ?_⟩
      rw [if_neg Bool.false_ne_true, inV_ints]
      exact q _ B H1 (.refl e) (.bl _)
    · cases h
theorem rf_notInX (x y z : PyData) (h : notInXD x y = some z) : RD K (rNotInU K) x y B z := by
  unfold notInXD at h
  split at h
  · cases h
    exact rf_notInU _ _ _ (by assumption)
  · split at h
    · obtain ⟨ns, h1, rfl⟩ := Option.map_eq_some_iff.mp h
      rw [intsOf_some h1]
      intro a b H1 e hx hy Q q
      obtain ⟨p, us, rfl, k1, k2⟩ := hy.tup_of
      rw [k2.ints] at k1
      rw [hx.int_of]
      refine .inr ⟨p, _, rfl, .inr (ex_t e k1), rfl, flatV_ints ns, ?_⟩
      rw [if_pos rfl, inV_ints]
      exact q _ B H1 (.refl e) (.bl _)
    · cases h
theorem se_inX (ha : SE K ta f) (hb : SE K tb g) : SE K (tOp (rInU K) ta tb) (dOp inXD f g) := se_op (fun B => rf_inX) ha hb
theorem se_notInX (ha : SE K ta f) (hb : SE K tb g) : SE K (tOp (rNotInU K) ta tb) (dOp notInXD f g) := se_op (fun B => rf_notInX) ha hb
end
theorem in_ints (k : Int) (ns : List Int) : inXD (.int k) (.tuple (ns.map .int)) = some (.bool (anyI k ns)) := by
  have e : inUD (.int k) (.tuple (ns.map .int)) = none := rfl
  unfold inXD
  rw [e]
  show (intsOf (ns.map .int)).map (fun ns => PyData.bool (anyI k ns)) = _
  rw [intsOf_map]
  rfl
theorem anyI_mem {k : Int} {ns : List Int} : anyI k ns = decide (k ∈ ns) := by
  unfold anyI
  induction ns with
  | nil => rfl
  | cons n ns ih =>
    rw [List.any_cons, ih]
    by_cases c : n = k
    · subst c
      simp
    · have : (n == k) = false := by simpa using c
      rw [this, Bool.false_or]
      simp [Ne.symm c]
end Fd
end

section
set_option Elab.async false
set_option linter.all false
set_option maxRecDepth 100000
set_option maxHeartbeats 1000000
/-! Base g, dicts 2: d[k], k in d, d.get, as rules, and what they mean of data. -/
variable [Fd.Uw]
namespace L2
open PySem PySem.Spec PyProof.Rows Evl
def rIxQ (K : PySem.W.Frag) : R2 := fun x y H Q => ∃ a kvs k v, x = .ref a ∧ DicAt K H a kvs ∧ sameSort kvs k ∧ KeyV K H y k ∧ findK kvs k = some v ∧ Q v H
def rInQ (K : PySem.W.Frag) (neg : Bool) : R2 := fun x y H Q => ∃ a kvs k, y = .ref a ∧ DicAt K H a kvs ∧ sameSort kvs k ∧ KeyV K H x k ∧ Q (.bl (if neg then !(findK kvs k).isSome else (findK kvs k).isSome)) H
section
variable {X : Cx}
theorem ix_dic (hu : X.A.units + 64 < cLine) : IxR X (rIxQ X.K) := by
  intro value slice pins s σ H x y v u Q I rx ry h hs
  obtain ⟨a, kvs, k, z, rfl, hd, hsort, hy, g, q⟩ := h
  cases rx
  rcases hy with hy | ⟨b, rfl, hb⟩
  · have hk := leafK_not hy
    obtain ⟨vs, dd, rel⟩ := dic_leaf I hd fun x hx => (hsort x hx).trans hk
    obtain ⟨w', hw, rw'⟩ := RelO.some_of (v := z) (o := valueAt vs (leafOf k)) (by rw [← g]; exact find_leaf hk rel)
    exact subscriptTail_builtinR (x := w') dd.typeIs PySem.F.slot_dict_getitem.lookup (wpAny_getItem_of (Q := fun r s' => r = w' ∧ EP X pins σ Q r s') (leaf_is hy ry) dd.mapOf hw ⟨rfl, z, H, I.tok _, rw', q⟩) hs
  · cases (show u = Value.ref b from ry)
    obtain ⟨ys, dd, rel⟩ := dic_tup I hd fun x hx => (hsort x hx).trans hb.tup
    obtain ⟨w', hw, rw'⟩ := RelO.some_of (v := z) (o := valueAt (pairsH ys) k) (by rw [← g]; exact find_tup rel)
    exact subscriptTail_builtinR (x := w') dd.typeIs PySem.F.slot_dict_getitem.lookup (getItem_keyed (Q := fun r s' => r = w' ∧ EP X pins σ Q r s') (nest_room hu) (hb.at I) ⟨ys, dd, rfl⟩ hw ⟨rfl, z, H, I.tok _, rw', q⟩) hs
theorem op_inQ (hu : X.A.units + 64 < cLine) : OpR X (compareOp .In) (rInQ X.K false) := by
  intro pins s σ H x y v u Q I rx ry h
  obtain ⟨a, kvs, k, rfl, hd, hsort, hy, q⟩ := h
  cases ry
  exact q_in hu I hd hsort hy rx fun s' I' => ⟨.bl (findK kvs k).isSome, H, I', rfl, q⟩
theorem op_notInQ (hu : X.A.units + 64 < cLine) : OpR X (compareOp .NotIn) (rInQ X.K true) := by
  intro pins s σ H x y v u Q I rx ry h
  obtain ⟨a, kvs, k, rfl, hd, hsort, hy, q⟩ := h
  cases ry
  exact q_notIn hu I hd hsort hy rx fun s' I' => ⟨.bl (!(findK kvs k).isSome), H, I', rfl, q⟩
def tQGet1 (K : PySem.W.Frag) (td ty : TE) : TE := fun σ H Q => td σ H fun x H1 => ∃ a kvs, x = .ref a ∧ DicAt K H1 a kvs ∧ ty σ H1 fun y H2 => ∃ kvs k, DicAt K H2 a kvs ∧ sameSort kvs k ∧ KeyV K H2 y k ∧ Q ((findK kvs k).getD .non) H2
def tQGet2 (K : PySem.W.Frag) (td ty tx : TE) : TE := fun σ H Q => td σ H fun x H1 => ∃ a kvs, x = .ref a ∧ DicAt K H1 a kvs ∧ ty σ H1 fun y H2 => tx σ H2 fun z H3 => ∃ kvs k, DicAt K H3 a kvs ∧ sameSort kvs k ∧ KeyV K H3 y k ∧ Q ((findK kvs k).getD z) H3
variable {o e f : Expr} {apos cpos : Pos} {td ty tx : TE}
theorem dic_is {pins : List (Addr × Obj)} {σ : St} {H : Hp} {s : Shared} {a : Addr} {kvs : List (NestedKey × V)} (I : Inv X pins σ H s) (h : DicAt X.K H a kvs) :
    s.TypeIs (.ref a) "dict" ∧ ∀ b, Value.ref a = .ref b → ∃ ob, s.heap.get? b = some ob ∧ ob.dict = none := by
  obtain ⟨es, ep, o, ho, hc, _⟩ := dic_exact I h
  refine ⟨⟨o, ho, hc.1⟩, fun b e => ?_⟩
  cases e
  exact ⟨o, ho, hc.2.1⟩
theorem pe_qget1 (hu : X.A.units + 64 < cLine) (ho : PE X o td) (he : PE X e ty) (m : M1 X o "get" apos e cpos) : PE X (.Call (.Attribute o "get" apos) [e] [] cpos) (tQGet1 X.K td ty) := by
  refine ⟨fun pins s σ H Q I h => ?_⟩
  refine wpAny_Call_method m.base m.few m.line PySem.F.plainAttrs_dict PySem.F.slot_dict_get PySem.F.type_dict_get (thn (ho.run pins s σ H _ I h) fun u s1 ⟨x, H1, I1, rx, a, kvs, ex, d, q1⟩ => ?_)
  subst ex
  obtain rfl : u = Value.ref a := rx
  obtain ⟨t1, t2⟩ := dic_is I1 d
  refine ⟨t1, t2, ?_⟩
  rw [m.trees]
  refine Calls.callWith_builtin rfl (Calls.evalArgs_plain (Calls.spliced_cons (thn (he.run pins s1 σ H1 _ I1 q1) fun iv s2 ⟨y, H2, I2, ry, kvs2, k, g1, g2, g3, q2⟩ => Calls.spliced_nil ?_)))
  exact q_get1 hu I2 g1 g2 g3 ry fun w' s3 I3 rw' => ⟨_, H2, I3, rw', q2⟩
theorem pe_qget2 (hu : X.A.units + 64 < cLine) (ho : PE X o td) (he : PE X e ty) (hf : PE X f tx) (m : M2 X o "get" apos e f cpos) : PE X (.Call (.Attribute o "get" apos) [e, f] [] cpos) (tQGet2 X.K td ty tx) := by
  refine ⟨fun pins s σ H Q I h => ?_⟩
  refine wpAny_Call_method m.base m.few m.line PySem.F.plainAttrs_dict PySem.F.slot_dict_get PySem.F.type_dict_get (thn (ho.run pins s σ H _ I h) fun u s1 ⟨x, H1, I1, rx, a, kvs, ex, d, q1⟩ => ?_)
  subst ex
  obtain rfl : u = Value.ref a := rx
  obtain ⟨t1, t2⟩ := dic_is I1 d
  refine ⟨t1, t2, ?_⟩
  rw [m.trees]
  refine Calls.callWith_builtin rfl (Calls.evalArgs_plain (Calls.spliced_cons (thn (he.run pins s1 σ H1 _ I1 q1) fun iv s2 ⟨y, H2, I2, ry, q2⟩ =>
    Calls.spliced_cons (thn (hf.run pins s2 σ H2 _ I2 q2) fun fv s3 ⟨z, H3, I3, rz, kvs2, k, g1, g2, g3, q3⟩ => Calls.spliced_nil ?_))))
  exact q_get2 hu I3 g1 g2 g3 ry rz fun w' s4 I4 rw' => ⟨_, H3, I4, rw', q3⟩
end
end L2
namespace Fd
open PySem PySem.Spec PyProof.Rows L2 Evl Tb
/-! ### of data -/
def dfind (ds : List (PyData × PyData)) (k : NestedKey) : Option PyData := (ds.find? fun d => decide (keyD d.1 = some k)).map (·.2)
def dfits (ds : List (PyData × PyData)) (k : NestedKey) : Bool := ds.all fun d => match keyD d.1 with
  | some j => isTupK j == isTupK k
  | none => false
/-- what a dict holds at a key -/
def getQ (x y : PyData) : Option (Option PyData) := match x with
  | .dict ds => match keyD y with
    | some k => if dfits ds k = true then some (dfind ds k) else none
    | none => none
  | _ => none
section
variable {K : PySem.W.Frag} {B H : Hp} {v : V} {k : NestedKey}
theorem leaf_v {d : PyData} (h : Dq K H v d) (e : leafD d = some k) : leafK v = some k := by
  unfold leafD at e
  split at e
  · cases e
    rw [h.non_of]
    rfl
  · cases e
    rw [h.int_of]
    rfl
  · cases e
    rw [h.str_of]
    rfl
  · cases e
theorem leafs_v : ∀ {ds : List PyData} {vs : List V} {ks : List NestedKey}, DqAll K H vs ds → leafDs ds = some ks → leafKs vs = some ks
  | [], _, _, .nil, e => by
    cases e
    rfl
  | d :: ds, _, ks, .cons h hs, e => by
    unfold leafDs at e
    split at e
    · rename_i k ks' e1 e2
      cases e
      unfold leafKs
      rw [leaf_v h e1, leafs_v hs e2]
    · cases e
theorem key_v {d : PyData} (h : Dq K H v d) (e : keyD d = some k) : KeyV K H v k := by
  unfold keyD at e
  split at e
  · obtain ⟨ks, h1, rfl⟩ := Option.map_eq_some_iff.mp e
    obtain ⟨a, xs, rfl, h2, h3⟩ := h.tup_of
    exact .inr ⟨a, rfl, xs, ks, h2, leafs_v h3 h1, rfl⟩
  · exact .inl (leaf_v h e)
theorem find_dq (k : NestedKey) : ∀ {ds : List (PyData × PyData)} {kvs : List (NestedKey × V)}, (ds.map fun d => keyD d.1) = (kvs.map fun x => some x.1) → DqAll K H (kvs.map (·.2)) (ds.map (·.2)) →
    match findK kvs k, dfind ds k with
    | some v, some d => Dq K H v d
    | none, none => True
    | _, _ => False
  | [], [], _, _ => True.intro
  | [], _ :: _, e, _ => by simp at e
  | _ :: _, [], e, _ => by simp at e
  | d :: ds, x :: kvs, e, h => by
    rw [List.map_cons, List.map_cons] at e
    injection e with e1 e2
    cases h with
    | cons h1 h2 =>
      have ih := find_dq k e2 h2
      by_cases c : x.1 = k
      · have f1 : findK (x :: kvs) k = some x.2 := by simp [findK, c]
        have f2 : dfind (d :: ds) k = some d.2 := by simp [dfind, e1, c]
        rw [f1, f2]
        exact h1
      · have f1 : findK (x :: kvs) k = findK kvs k := by simp [findK, c]
        have f2 : dfind (d :: ds) k = dfind ds k := by simp [dfind, e1, c]
        rw [f1, f2]
        exact ih
theorem sort_dq (k : NestedKey) : ∀ {ds : List (PyData × PyData)} {kvs : List (NestedKey × V)}, (ds.map fun d => keyD d.1) = (kvs.map fun x => some x.1) → dfits ds k = true → sameSort kvs k
  | [], [], _, _ => fun _ h => nomatch h
  | [], _ :: _, e, _ => by simp at e
  | _ :: _, [], e, _ => by simp at e
  | d :: ds, x :: kvs, e, h => by
    rw [List.map_cons, List.map_cons] at e
    injection e with e1 e2
    unfold dfits at h
    rw [List.all_cons, Bool.and_eq_true, e1] at h
    have ih := sort_dq k e2 h.2
    intro y hy
    rcases List.mem_cons.mp hy with c | c
    · subst c
      simpa using h.1
    · exact ih y c
theorem Dq.dic_of {d y : PyData} {w : V} {r : Option PyData} (h : Dq K H v d) (hy : Dq K H w y) (e : getQ d y = some r) : ∃ a kvs k, v = .ref a ∧ DicAt K H a kvs ∧ sameSort kvs k ∧ KeyV K H w k ∧ ((∃ x z, r = some z ∧ findK kvs k = some x ∧ Dq K H x z) ∨ (r = none ∧ findK kvs k = none)) := by
  unfold getQ at e
  split at e
  · split at e
    · rename_i ds _ k hk
      split at e
      · rename_i hf
        cases e
        cases h with
        | @dic a kvs _ h1 h2 h3 =>
          refine ⟨a, kvs, k, rfl, h1, sort_dq k h2 hf, key_v hy hk, ?_⟩
          have h4 := find_dq k h2 h3
          revert h4
          cases findK kvs k <;> cases dfind ds k <;> intro h4
          · exact .inr ⟨rfl, rfl⟩
          · cases h4
          · cases h4
          · exact .inl ⟨_, _, rfl, rfl, h4⟩
      · cases e
    · cases e
  · cases e
/-! ### as expressions -/
def ixQD (x y : PyData) : Option PyData := match getQ x y with
  | some r => r
  | none => ixD x y
def inQD (x y : PyData) : Option PyData := match getQ y x with
  | some r => some (.bool r.isSome)
  | none => inXD x y
def notInQD (x y : PyData) : Option PyData := match getQ y x with
  | some r => some (.bool (!r.isSome))
  | none => notInXD x y
def rIxA (K : PySem.W.Frag) : R2 := fun x y H Q => rIx K x y H Q ∨ rIxQ K x y H Q
def rInA (K : PySem.W.Frag) : R2 := fun x y H Q => rInU K x y H Q ∨ rInQ K false x y H Q
def rNotInA (K : PySem.W.Frag) : R2 := fun x y H Q => rNotInU K x y H Q ∨ rInQ K true x y H Q
theorem ixk_all {X : Cx} {K : PySem.W.Frag} (h : X.K = K) (hu : X.A.units + 64 < cLine) : IxR X (rIxA K) := by
  subst h
  exact ix_seq.or (ix_dic hu)
theorem ok_inA {X : Cx} {K : PySem.W.Frag} (h : X.K = K) (hu : X.A.units + 65 < cLine) : OpR X (compareOp .In) (rInA K) := by
  subst h
  exact (ok_inU rfl hu).or (op_inQ (by omega))
theorem ok_notInA {X : Cx} {K : PySem.W.Frag} (h : X.K = K) (hu : X.A.units + 65 < cLine) : OpR X (compareOp .NotIn) (rNotInA K) := by
  subst h
  exact (ok_notInU rfl hu).or (op_notInQ (by omega))
theorem rf_ixQ (x y z : PyData) (h : ixQD x y = some z) : RD K (rIxA K) x y B z := by
  unfold ixQD at h
  split at h
  · rename_i r hr
    subst h
    intro a b H1 e hx hy Q q
    obtain ⟨p, kvs, k, rfl, h1, h2, h3, h4⟩ := Dq.dic_of hx hy hr
    rcases h4 with ⟨x', z', e1, e2, e3⟩ | ⟨e1, _⟩
    · cases e1
      exact .inr ⟨p, kvs, k, x', rfl, h1.mono e, h2, h3.mono e, e2, q _ B H1 (.refl e) e3⟩
    · cases e1
  · intro a b H1 e hx hy Q q
    exact .inl (rf_ix x y z h a b H1 e hx hy Q q)
theorem rf_inQ (x y z : PyData) (h : inQD x y = some z) : RD K (rInA K) x y B z := by
  unfold inQD at h
  split at h
  · rename_i r hr
    cases h
    intro a b H1 e hx hy Q q
    obtain ⟨p, kvs, k, rfl, h1, h2, h3, h4⟩ := Dq.dic_of hy hx hr
    refine .inr ⟨p, kvs, k, rfl, h1.mono e, h2, h3.mono e, ?_⟩
    rcases h4 with ⟨x', z', e1, e2, e3⟩ | ⟨e1, e2⟩
    · subst e1
      rw [e2]
      exact q _ B H1 (.refl e) (.bl _)
    · subst e1
      rw [e2]
      exact q _ B H1 (.refl e) (.bl _)
  · intro a b H1 e hx hy Q q
    exact .inl (rf_inX x y z h a b H1 e hx hy Q q)
theorem rf_notInQ (x y z : PyData) (h : notInQD x y = some z) : RD K (rNotInA K) x y B z := by
  unfold notInQD at h
  split at h
  · rename_i r hr
    cases h
    intro a b H1 e hx hy Q q
    obtain ⟨p, kvs, k, rfl, h1, h2, h3, h4⟩ := Dq.dic_of hy hx hr
    refine .inr ⟨p, kvs, k, rfl, h1.mono e, h2, h3.mono e, ?_⟩
    rcases h4 with ⟨x', z', e1, e2, e3⟩ | ⟨e1, e2⟩
    · subst e1
      rw [e2]
      exact q _ B H1 (.refl e) (.bl _)
    · subst e1
      rw [e2]
      exact q _ B H1 (.refl e) (.bl _)
  · intro a b H1 e hx hy Q q
    exact .inl (rf_notInX x y z h a b H1 e hx hy Q q)
variable {ta tb tc : TE} {f g j : Dn PyData}
theorem se_ixQ (ha : SE K ta f) (hb : SE K tb g) : SE K (tOp (rIxA K) ta tb) (dOp ixQD f g) := se_op (fun B => rf_ixQ) ha hb
theorem se_inQ (ha : SE K ta f) (hb : SE K tb g) : SE K (tOp (rInA K) ta tb) (dOp inQD f g) := se_op (fun B => rf_inQ) ha hb
theorem se_notInQ (ha : SE K ta f) (hb : SE K tb g) : SE K (tOp (rNotInA K) ta tb) (dOp notInQD f g) := se_op (fun B => rf_notInQ) ha hb
/-- d.get(k), d.get(k, x) -/
def dGet1 (f g : Dn PyData) : Dn PyData := dBind f fun x => match x with
  | .dict ds => dBind g fun y => dLift ((getQ (.dict ds) y).map fun r => r.getD .none)
  | _ => fun _ => none
def dGet2 (f g j : Dn PyData) : Dn PyData := dBind f fun x => match x with
  | .dict ds => dBind g fun y => dBind j fun z => dLift ((getQ (.dict ds) y).map fun r => r.getD z)
  | _ => fun _ => none
theorem Dq.dic_at {ds : List (PyData × PyData)} (h : Dq K H v (.dict ds)) : ∃ a kvs, v = .ref a ∧ DicAt K H a kvs := by
  cases h with
  | dic h _ _ => exact ⟨_, _, rfl, h⟩
theorem se_get1 (ha : SE K ta f) (hb : SE K tb g) : SE K (tQGet1 K ta tb) (dGet1 f g) := fun W hW σ e B H a d e' h Q q => by
  obtain ⟨x, e1, h1, h⟩ := dBind_some h
  split at h
  · rename_i ds
    obtain ⟨y, e2, h2, h⟩ := dBind_some h
    obtain ⟨h3, rfl⟩ := dLift_some h
    obtain ⟨r, hr, rfl⟩ := Option.map_eq_some_iff.mp h3
    refine ha W hW σ e B H a _ e1 h1 _ fun v B1 H1 a1 g1 d1 => ?_
    obtain ⟨p, kv0, rfl, k0⟩ := Dq.dic_at d1
    refine ⟨p, kv0, rfl, k0.mono a1.ex, hb W hW σ e1 B1 H1 a1 y e' h2 _ fun w B2 H2 a2 g2 d2 => ?_⟩
    obtain ⟨p', kvs, k, e3, k1, k2, k3, k4⟩ := Dq.dic_of (dp_mono g2.go.hg d1) d2 hr
    cases e3
    refine ⟨kvs, k, k1.mono a2.ex, k2, k3.mono a2.ex, ?_⟩
    rcases k4 with ⟨x', z', c1, c2, c3⟩ | ⟨c1, c2⟩
    · subst c1
      rw [c2]
      exact q _ B2 H2 a2 (g1.trans g2) c3
    · subst c1
      rw [c2]
      exact q _ B2 H2 a2 (g1.trans g2) .non
  · cases h
theorem se_get2 (ha : SE K ta f) (hb : SE K tb g) (hc : SE K tc j) : SE K (tQGet2 K ta tb tc) (dGet2 f g j) := fun W hW σ e B H a d e' h Q q => by
  obtain ⟨x, e1, h1, h⟩ := dBind_some h
  split at h
  · rename_i ds
    obtain ⟨y, e2, h2, h⟩ := dBind_some h
    obtain ⟨z, e3, h4, h⟩ := dBind_some h
    obtain ⟨h3, rfl⟩ := dLift_some h
    obtain ⟨r, hr, rfl⟩ := Option.map_eq_some_iff.mp h3
    refine ha W hW σ e B H a _ e1 h1 _ fun v B1 H1 a1 g1 d1 => ?_
    obtain ⟨p, kv0, rfl, k0⟩ := Dq.dic_at d1
    refine ⟨p, kv0, rfl, k0.mono a1.ex, hb W hW σ e1 B1 H1 a1 y e2 h2 _ fun w B2 H2 a2 g2 d2 => hc W hW σ e2 B2 H2 a2 z e' h4 _ fun w3 B3 H3 a3 g3 d3 => ?_⟩
    obtain ⟨p', kvs, k, e3, k1, k2, k3, k4⟩ := Dq.dic_of (dp_mono g3.go.hg (dp_mono g2.go.hg d1)) (dp_mono g3.go.hg d2) hr
    cases e3
    refine ⟨kvs, k, k1.mono a3.ex, k2, k3.mono a3.ex, ?_⟩
    rcases k4 with ⟨x', z', c1, c2, c3⟩ | ⟨c1, c2⟩
    · subst c1
      rw [c2]
      exact q _ B3 H3 a3 ((g1.trans g2).trans g3) c3
    · subst c1
      rw [c2]
      exact q _ B3 H3 a3 ((g1.trans g2).trans g3) d3
  · cases h
end
end Fd
end

section
set_option Elab.async false
set_option linter.all false
set_option maxRecDepth 100000
set_option maxHeartbeats 1000000
/-! Base g, dicts 3: a dict comprehension (keys ints and texts) as data. -/
variable [Fd.Uw]
namespace L2
open PySem PySem.Spec PyProof.Rows Evl
/-- a dict that has come: where it is empty, its object is known -/
def tExE (te : TE) : TE := fun σ H Q => te σ H fun v H1 => ∃ a ks, v = .ref a ∧ H1 a = some (.dK ks) ∧ (ks ≠ [] → Q v H1) ∧ (ks = [] → (a == sysModules) = false → ∀ ep, Q v (upd H1 a (DicO a #[] ep)))
theorem pe_exE {X : Cx} {e : Expr} {te : TE} (h : PE X e te) : PE X e (tExE te) := by
  refine ⟨fun pins s σ H Q I hq => thn (h.run pins s σ H _ I hq) fun u s1 ⟨v, H1, I1, r, a, ks, ev, hk, q1, q2⟩ => ?_⟩
  subst ev
  cases ks with
  | cons x xs => exact ⟨.ref a, H1, I1, r, q1 fun z => nomatch z⟩
  | nil =>
    obtain ⟨_, hm, vs, rel, dd⟩ := dk_of I1.hok hk
    cases rel
    obtain ⟨es, ep, rw', hz, _⟩ := dd.raw
    have e0 : es = #[] := Array.eq_empty_of_size_eq_zero (by simpa using hz)
    subst e0
    have ho : ∃ o, s1.heap.get? a = some o := by
      obtain ⟨o, z, _⟩ := rw'
      exact ⟨o, z⟩
    have I2 := I1.write (x := a) (e := a) (o := DicO a #[] ep) (h' := s1.heap) (t' := s1.toks) (by rw [hk]; exact True.intro) (.inl rfl) (fun _ _ _ z => z) ho ⟨rw', ho, fun h1 h2 x e => x.at e⟩
    exact ⟨.ref a, _, I2, r, q2 rfl hm ep⟩
end L2
namespace Fd
open PySem PySem.Spec PyProof.Rows L2 Evl Tb
theorem At.fzo {W : Wo} {σ : L2.St} {e : En} {B H : Hp} {p : Addr} {o : HO} (a : At W σ e B H) (hp : H p = some o) (h0 : B p = none) (no : ¬ Ow σ e p) : At W σ e (upd B p o) H where
  ex := fun b u h => by
    by_cases c : b = p
    · subst c
      rw [upd_same] at h
      cases h
      exact hp
    · rw [upd_ne c] at h
      exact a.ex b u h
  nm := a.nm
  len := a.len
  dat := fun i x h => by
    obtain ⟨v, h1, h2⟩ := a.dat i x h
    exact ⟨v, h1, dp_mono (Ex.new h0) h2⟩
  own := fun i s xs h1 h2 => by
    obtain ⟨q, vs, g1, g2, g3, g4, g5⟩ := a.own i s xs h1 h2
    have qp : q ≠ p := fun z => by
      subst z
      exact no ⟨i, s, xs, h1, h2, g1⟩
    exact ⟨q, vs, g1, g2, by rw [upd_ne qp]; exact g3, g4, cn_mono (Ex.new h0) g5⟩
  sep := a.sep
  pin := a.pin
theorem Gx.fzo {σ : L2.St} {e e' : En} {B H B' H' : Hp} {p : Addr} {o : HO} (g : Gx σ e B H e' B' H') (p0 : H p = none) (pB : B' p = none) : Gx σ e B H e' (upd B' p o) H' :=
  ⟨⟨g.go.hg.trans (Ex.new pB), g.go.fr, g.go.dm, fun b hn hb hh => by
    by_cases c : b = p
    · subst c
      exact absurd p0 hh
    · rw [upd_ne c]
      exact g.go.sp b hn hb hh⟩, g.ow⟩
/-! ### a dict comprehension -/
def runDc (g : PyData → En → Option En) (t : Dn Bool) (fk fv : Dn PyData) (vs : List Nat) : List PyData → List (PyData × PyData) → En → Option (List (PyData × PyData) × En)
  | [] => fun acc e => some (acc, e)
  | d :: ds => fun acc e => match g d e with
    | none => none
    | some e1 => match t e1 with
      | none => none
      | some (false, e2) => runDc g t fk fv vs ds acc (wipeE e2 vs)
      | some (true, e2) => match fk e2 with
        | none => none
        | some (y, e3) => match keyI y with
          | none => none
          | some _ => match fv e3 with
            | none => none
            | some (z, e4) => runDc g t fk fv vs ds (putD acc y z) (wipeE e4 vs)
def dDc (it : Dn (List PyData)) (g : PyData → En → Option En) (t : Dn Bool) (fk fv : Dn PyData) (vs : List Nat) : Dn PyData := fun e => match it e with
  | none => none
  | some (ds, e1) => if (vsFree e1 vs && fewer ds) = true then (match runDc g t fk fv vs ds [] (wipeE e1 vs) with
    | none => none
    | some (ys, e2) => some (.dict ys, restE e1 e2 vs)) else none
section
variable {K : PySem.W.Frag} {wi : TI} {g : TG} {tt : TT} {tk tv : TE} {sl vs : List Nat} {it : Dn (List PyData)} {fg : PyData → En → Option En} {ft : Dn Bool} {fk fv : Dn PyData}
theorem se_dc (hi : SI K wi it) (hg : SG K g sl fg) (ht : ST K tt ft) (hk : SE K tk fk) (he : SE K tv fv) (hs : ∀ i ∈ sl, i ∈ vs) : SE K (tExE (tDc wi g tt tk tv vs)) (dDc it fg ft fk fv vs) := fun W hW σ e B H a r e' h' Q q => by
  unfold dDc at h'
  split at h'
  · cases h'
  rename_i ds e1 h1
  by_cases hc : (vsFree e1 vs && fewer ds) = true
  case neg =>
    rw [if_neg hc] at h'
    cases h'
  rw [if_pos hc] at h'
  rw [Bool.and_eq_true] at hc
  obtain ⟨hf, hlen⟩ := hc
  have hlen := of_decide_eq_true hlen
  split at h'
  · cases h'
  rename_i ys e2 h2
  cases h'
  refine hi W hW σ e B H a ds e1 h1 _ fun J B1 H1 a1 g1 wk => fun Dl hD => ?_
  have hpn := free_pn a1 hf
  have noD : ¬ Ow σ e1 Dl := fun z => (a1.ow z).2.1 hD
  have BD : B1 Dl = none := fresh_back a1.ex hD
  have aw : At W (L2.wipe σ vs) (wipeE e1 vs) B1 H1 := a1.wipe hpn
  refine ⟨fun i m H' => ∃ (e' : En) (B' : Hp) (acc : List (Key × V)) (accd : List (PyData × PyData)), At W (L2.wipe σ vs) e' B' H' ∧ Go (Ow σ e1) B1 H1 B' H' ∧ (∀ b, Ow (L2.wipe σ vs) e' b → Ow σ e1 b) ∧ H' Dl = some (.dK acc) ∧ B' Dl = none ∧ KVD K B' acc accd ∧ i ≤ ds.length ∧ m = ds.length - i ∧
    runDc fg ft fk fv vs (ds.drop i) accd e' = some (ys, e2) ∧ accd.length ≤ i, ⟨_, _, B1, [], [], aw.oth BD (fun z => noD (ow_wipe z)), (Go.refl _ _ _).put hD, fun b => ow_wipe, upd_same, BD, .nil, Nat.zero_le _, rfl, h2, Nat.le_refl _⟩, ?_⟩
  rintro i m H' ⟨e', B', acc, accd, a', g', o', hl', hB', hd', hi', rfl, hr', hal⟩
  by_cases hlt : i < ds.length
  · refine .inr ⟨wk.go i B' H' g'.hg a'.ex hlt, fun H2 => ∃ (e' : En) (B' : Hp) (acc : List (Key × V)) (accd : List (PyData × PyData)), At W (L2.wipe σ vs) e' B' H2 ∧ Go (Ow σ e1) B1 H1 B' H2 ∧ (∀ b, Ow (L2.wipe σ vs) e' b → Ow σ e1 b) ∧ H2 Dl = some (.dK acc) ∧ B' Dl = none ∧ KVD K B' acc accd ∧
      runDc fg ft fk fv vs (ds.drop (i + 1)) accd e' = some (ys, e2) ∧ accd.length ≤ i + 1, ?_, ?_⟩
    · rintro H2 ⟨e', B', acc, accd, p1, p2, p3, p4, p5, p6, p7, p9⟩
      exact ⟨ds.length - (i + 1), by omega, e', B', acc, accd, p1, p2, p3, p4, p5, p6, hlt, rfl, p7, p9⟩
    intro x H2 hy
    obtain ⟨B2, gr, hdx⟩ := wk.yl i ds[i] B' H' x H2 g'.hg a'.ex (List.getElem?_eq_getElem hlt) hy
    rw [List.drop_eq_getElem_cons hlt] at hr'
    unfold runDc at hr'
    have a2 := a'.gr gr
    have g2 : Go (Ow σ e1) B1 H1 B2 H2 := g'.trans (.gr gr)
    split at hr'
    · cases hr'
    rename_i e3 h3
    refine hg W hW (L2.wipe σ vs) e' B2 H2 x _ a2 hdx e3 h3 _ fun σ3 a3 o3 w3 l3 => ?_
    have sw : L2.wipe σ3 vs = L2.wipe σ vs := by
      rw [← wipe_wipe σ vs]
      exact wipe_same l3 fun j hj => w3 j fun z => hj (hs j z)
    refine ⟨sw, ?_⟩
    have o3' : ∀ b, Ow σ3 e3 b → Ow σ e1 b := fun b hb => o' b (o3 b hb)
    have no3 : ¬ Ow σ3 e3 Dl := fun z => noD (o3' _ z)
    have hl2 : H2 Dl = some (.dK acc) := gr.h12 _ _ hl'
    have hne2 : H2 Dl ≠ none := by rw [hl2]; exact fun z => nomatch z
    have hB2 : B2 Dl = none := gr.sep Dl hB' (by rw [hl']; exact fun z => nomatch z)
    split at hr'
    · cases hr'
    · rename_i e4 h4
      refine ht W hW σ3 e3 B2 H2 a3 _ e4 h4 _ fun B4 H4 a4 g4 => ?_
      rw [if_neg Bool.false_ne_true]
      have a5 := a4.wipe hpn
      rw [sw] at a5
      refine ⟨wipeE e4 vs, B4, acc, accd, a5, g2.trans (g4.go.mono o3'), fun b hb => o3' b (g4.ow b ?_), g4.go.fr _ _ no3 hl2, g4.go.sp Dl no3 hB2 hne2, hd'.mono (gr.hg.trans g4.go.hg), hr', by omega⟩
      rw [← sw] at hb
      exact ow_wipe hb
    · rename_i e4 h4
      refine ht W hW σ3 e3 B2 H2 a3 _ e4 h4 _ fun B4 H4 a4 g4 => ?_
      rw [if_pos rfl]
      split at hr'
      · cases hr'
      rename_i y e5 h5
      split at hr'
      · cases hr'
      rename_i kk hkk
      split at hr'
      · cases hr'
      rename_i z e6 h6
      have hl4 := g4.go.fr _ _ no3 hl2
      have hB4 := g4.go.sp Dl no3 hB2 hne2
      have no4 : ¬ Ow σ3 e4 Dl := fun z => no3 (g4.ow _ z)
      refine hk W hW σ3 e4 B4 H4 a4 y e5 h5 _ fun w B5 H5 a5 g5 d5 => ?_
      have hl5 := g5.go.fr _ _ no4 hl4
      have hB5 := g5.go.sp Dl no4 hB4 (by rw [hl4]; exact fun z => nomatch z)
      have no5 : ¬ Ow σ3 e5 Dl := fun z => no4 (g5.ow _ z)
      refine he W hW σ3 e5 B5 H5 a5 z e6 h6 _ fun v B6 H6 a6 g6 d6 => ?_
      have hl6 := g6.go.fr _ _ no5 hl5
      have hB6 := g6.go.sp Dl no5 hB5 (by rw [hl5]; exact fun z => nomatch z)
      have no6 : ¬ Ow σ3 e6 Dl := fun z => no5 (g6.ow _ z)
      have hal2 := hd'.length
      have a7 := (a6.oth (o := .dK (putK acc kk v)) hB6 no6).wipe hpn
      rw [sw] at a7
      refine ⟨acc, kk, keyI_v d5 hkk, hl6, sz_lt (by omega), wipeE e6 vs, B6, putK acc kk v, putD accd y z, a7, Go.put (((g2.trans (g4.go.mono o3')).trans (g5.go.mono fun b hb => o3' b (g4.ow b hb))).trans (g6.go.mono fun b hb => o3' b (g4.ow b (g5.ow b hb)))) hD, fun b hb => o3' b (g4.ow b (g5.ow b (g6.ow b ?_))), upd_same, hB6, ?_, hr', ?_⟩
      · rw [← sw] at hb
        exact ow_wipe hb
      · exact (hd'.mono (((gr.hg.trans g4.go.hg).trans g5.go.hg).trans g6.go.hg)).put (keyI_key hkk) d6
      · have := putD_len accd y z
        omega
  · have ei : i = ds.length := by omega
    subst ei
    rw [List.drop_length] at hr'
    unfold runDc at hr'
    cases hr'
    refine .inl ⟨wk.st B' H' g'.hg a'.ex, ?_⟩
    have ar := a1.rest hf g'.hg a'
    have gx : Gx σ e B H (restE e1 e2 vs) B' H' := g1.trans ⟨g', fun b hb => o' b (ow_rest hf hb)⟩
    have no : ¬ Ow σ (restE e1 e2 vs) Dl := fun z => noD (o' _ (ow_rest hf z))
    have h0 := g1.go.dm Dl hD
    refine ⟨Dl, acc, rfl, hl', fun hne => q (.ref Dl) _ H' (ar.fzo hl' hB' no) (gx.fzo h0 hB') (KVD.dq hne upd_same (hd'.mono (Ex.new hB'))), fun he hm ep => ?_⟩
    subst he
    cases hd'
    exact q (.ref Dl) _ _ ((ar.oth (o := DicO Dl #[] ep) hB' no).fzo upd_same hB' no) (Gx.fzo (p := Dl) ⟨gx.go.put h0, gx.ow⟩ h0 hB') (dq_empty K hm upd_same)
end
end Fd
end

section
set_option Elab.async false
set_option linter.all false
set_option maxRecDepth 100000
set_option maxHeartbeats 1000000
/-! Base g, dicts 4: dict(a list of pairs whose keys are flat tuples of ints and None). -/
variable [Fd.Uw]
namespace L2
open PySem PySem.Spec PyProof.Rows Evl
def PairK (K : PySem.W.Frag) (H : Hp) (p : Addr) (x : NestedKey × V) : Prop := ∃ b, SqT K H p [.ref b, x.2] ∧ KeyT K H b x.1 ∧ flatNo x.1 = true
def putAll (acc kvs : List (NestedKey × V)) : List (NestedKey × V) := kvs.foldl (fun acc x => putK acc x.1 x.2) acc
def rDictT (K : PySem.W.Frag) : List V → Hp → VK → Prop := fun xs H Q => ∃ a ps kvs B, xs = [V.ref a] ∧ Ex B H ∧ SqL K H a (ps.map V.ref) ∧ Paired (PairK K B) ps kvs ∧
  ∀ p es ep, H p = none → (p == sysModules) = false → es.size ≤ sizeLine → TupEs K B es (putAll [] kvs) → Q (.ref p) (upd H p (DicO p es ep))
section
variable {K : PySem.W.Frag} {H : Hp}
theorem EntR.all : ∀ {zs : List (NestedKey × Addr × Value)} {ls : List (NestedKey × V)} {ys : List (NestedKey × Addr × Value)} {kvs : List (NestedKey × V)}, EntR K H zs ls → EntR K H ys kvs → EntR K H (storedAllH ys zs) (putAll kvs ls)
  | _, _, _, _, .nil, h => h
  | _ :: _, _ :: _, _, _, .cons g t, h => by
    have z := EntR.all t (h.put g)
    exact z
theorem storedAllH_len : ∀ (zs ys : List (NestedKey × Addr × Value)), (storedAllH ys zs).length ≤ ys.length + zs.length
  | [], ys => Nat.le_refl _
  | z :: zs, ys => by
    have h1 := storedAllH_len zs (storedH ys z.1 z.2.1 z.2.2)
    have h2 := storedH_len ys z.1 z.2.1 z.2.2
    show (storedAllH (storedH ys z.1 z.2.1 z.2.2) zs).length ≤ ys.length + (zs.length + 1)
    omega
end
section
variable {X : Cx}
theorem keys_of {pins : List (Addr × Obj)} {σ : St} {B H : Hp} {s : Shared} (I : Inv X pins σ H s) (e0 : Ex B H) : ∀ {ps : List Addr} {kvs : List (NestedKey × V)}, Paired (PairK X.K B) ps kvs →
    ∃ ys : List (NestedKey × Addr × Value), EntR X.K B ys kvs ∧ ys.length = ps.length ∧ ∀ (j : Nat) (y : NestedKey × Addr × Value), ys[j]? = some y → ∃ b, ps[j]? = some b ∧ IsTup s.heap b #[.ref y.2.1, y.2.2] ∧ (nestedKind X.prog X.w).is s.heap y.1 y.2.1
  | _, _, .nil => ⟨[], .nil, rfl, fun j q e => by simp at e⟩
  | _, _, .cons (a := p) (b := kv) h t => by
    obtain ⟨ys, r, hl, hp⟩ := keys_of I e0 t
    obtain ⟨b, hs, hk, hf⟩ := h
    obtain ⟨its, rv, ht, _⟩ := I.tuple (ex_t e0 hs)
    obtain ⟨u, y, ei, ru, ry⟩ := vals2 rv
    subst ei
    cases (show u = Value.ref b from ru)
    refine ⟨(kv.1, b, y) :: ys, .cons ⟨⟨rfl, hk, ry⟩, hf⟩ r, by rw [List.length_cons, List.length_cons, hl], fun j q e => ?_⟩
    cases j with
    | zero =>
      have e' : (kv.1, b, y) = q := Option.some.inj e
      subst e'
      exact ⟨p, rfl, ht, (hk.mono e0).at I⟩
    | succ j =>
      obtain ⟨b', e1, e2, e3⟩ := hp j q (by simpa using e)
      exact ⟨b', by simpa using e1, e2, e3⟩
theorem call_dictT (hc : X.calm = true) (hu : X.A.units + 64 < cLine) : CallR X (.type "dict") (rDictT X.K) := by
  intro pns st σ H xs us Q I r h
  obtain ⟨a, ps, kvs, B, rfl, e0, hs, hp, q⟩ := h
  obtain ⟨u, rfl, rx⟩ := vals1 r
  cases rx
  obtain ⟨its, rv, pl, hz⟩ := I.list hs
  have ei := refs_at rv
  subst ei
  rw [List.length_map] at hz
  obtain ⟨ys, rel, hl, hy⟩ := keys_of I e0 hp
  let ws : List (Value × Value) := ys.map fun y => (.ref y.2.1, y.2.2)
  have hwl : ws.length = ys.length := List.length_map _
  let Ts : Nat → Addr := fun j => ps.getD j 0
  have ok : PlainSeq "list" st.heap a (ps.map Value.ref).toArray ∧ PairItems st.heap (ps.map Value.ref).toArray Ts ws := by
    obtain ⟨o, n, e1, e2, e3, e4⟩ := pl
    refine ⟨⟨o, n, e1, e2, e3, e4⟩, by simp [hwl, hl], fun j k v e => ?_⟩
    have e' : (ys[j]?).map (fun y => ((.ref y.2.1 : Value), y.2.2)) = some (k, v) := by rw [← List.getElem?_map]; exact e
    obtain ⟨y, e5, e6⟩ := Option.map_eq_some_iff.mp e'
    cases e6
    obtain ⟨b, e7, e8, _⟩ := hy j y e5
    have eT : Ts j = b := by
      show ps.getD j 0 = b
      rw [List.getD_eq_getElem?_getD, e7]
      rfl
    rw [eT]
    exact ⟨by simp [e7], .inl e8⟩
  refine PySem.call_dict_pairsH (knd := nestedKind X.prog X.w) (ps := ys) (PairArg.list a (ps.map Value.ref).toArray Ts ws) (I.ok.hd hc) ?_ ok ⟨hwl.symm, fun i k v e => ?_⟩ ?_ (by rw [hwl, hl]; exact hz) fun h' tk hd' hk => ?_
  · show X.A.in1.in1.units + 8 < cLine
    have : X.A.in1.in1.units ≤ X.A.units + 2 := Nat.le_refl _
    omega
  · have e' : (ys[i]?).map (fun y => ((.ref y.2.1 : Value), y.2.2)) = some (k, v) := by rw [← List.getElem?_map]; exact e
    obtain ⟨y, e5, e6⟩ := Option.map_eq_some_iff.mp e'
    cases e6
    exact ⟨y.1, y.2.1, e5, rfl⟩
  · intro h' hk x hx
    obtain ⟨j, hj⟩ := List.mem_iff_getElem?.mp hx
    obtain ⟨b, _, _, e3⟩ := hy j x hj
    exact nestedKind_stays.stays (fun b o vs n hb _ => hk b o (Nat.ne_of_lt (Heap.lt_size hb)) (fun z => nomatch z) hb) e3
  · obtain ⟨o, es, ep, ho, hcl, hdat, hes, _, hn⟩ := hd'
    have hm : (st.heap.objs.size == sysModules) = false := beq_eq_false_iff_ne.mpr (Nat.ne_of_gt I.big)
    have rel2 : EntR X.K B (storedAllH [] ys) (putAll [] kvs) := EntR.all rel .nil
    have hsz : es.size ≤ sizeLine := by
      have h1 : es.size = (storedAllH [] ys).length := by
        have := congrArg List.length hes
        simpa using this
      have h2 := storedAllH_len ys []
      rw [h1]
      simp only [List.length_nil] at h2
      omega
    refine ⟨.ref st.heap.objs.size, upd H st.heap.objs.size (DicO st.heap.objs.size es ep), I.laid (t' := tk) (fun b o z => hk b o (by simp) z) (Nat.le_refl _) ?_, rfl,
      q _ es ep (I.hok.fresh (Nat.le_refl _)) hm hsz ⟨_, fun P w => hes.trans (EntR.map _ P _ w rel2), hn, rel2.tup⟩⟩
    exact ⟨⟨o, ho, hcl, hdat⟩, ⟨o, ho⟩, fun h1 h2 x e => x.at e⟩
end
end L2
namespace Fd
open PySem PySem.Spec PyProof.Rows L2 Evl Tb
def tupKey0 (d : PyData) : Bool := match keyD d with
  | some k => flatNo k
  | none => false
def isEmpT : PyData → Bool
  | .tuple [] => true
  | _ => false
/-- a flat tuple of ints and None, not empty -/
def tupKey (d : PyData) : Bool := tupKey0 d && !isEmpT d
theorem tupKey_0 {d : PyData} (h : tupKey d = true) : tupKey0 d = true := (Bool.and_eq_true _ _ ▸ h : _ ∧ _).1
theorem tupKey_ne {d : PyData} (h : tupKey d = true) : isEmpT d = false := by
  have := (Bool.and_eq_true _ _ ▸ h : _ ∧ _).2
  simpa using this
def pairsT : List PyData → Option (List (PyData × PyData))
  | [] => some []
  | .tuple [k, v] :: ds => if tupKey k = true then (pairsT ds).map ((k, v) :: ·) else none
  | _ => none
def mkDict (ps : List (PyData × PyData)) : List (PyData × PyData) := ps.foldl (fun acc p => putD acc p.1 p.2) []
def dictTD : List PyData → Option PyData
  | [.list ds] => (pairsT ds).map fun ps => .dict (mkDict ps)
  | _ => none
section
variable {K : PySem.W.Frag} {B B' : Hp} {v : V} {k : NestedKey} {kd vd : PyData}
theorem KN.all : ∀ {ls : List (NestedKey × V)} {ps : List (PyData × PyData)} {kvs : List (NestedKey × V)} {ds : List (PyData × PyData)}, KN K B ls ps → KN K B kvs ds → KN K B (putAll kvs ls) (ps.foldl (fun acc p => putD acc p.1 p.2) ds)
  | _, _, _, _, .nil, h => h
  | _ :: _, _ :: _, _, _, .cons g t, h => by
    have z := KN.all t (h.put g.1 g.2)
    exact z
theorem pairs_dq : ∀ {ds : List PyData} {xs : List V} {ps : List (PyData × PyData)}, DqAll K B xs ds → pairsT ds = some ps → ∃ as kvs, xs = as.map V.ref ∧ Paired (PairK K B) as kvs ∧ KN K B kvs ps
  | [], _, _, .nil, h => by
    cases h
    exact ⟨[], [], rfl, .nil, .nil⟩
  | d :: ds, _, ps, .cons h hs, e => by
    unfold pairsT at e
    split at e
    · rename_i e0
      cases e0
    · rename_i k v ds' e0
      cases e0
      split at e
      · rename_i ht
        obtain ⟨ps', h1, rfl⟩ := Option.map_eq_some_iff.mp e
        obtain ⟨as, kvs, rfl, h2, h3⟩ := pairs_dq hs h1
        obtain ⟨p, xs, rfl, h4, h5⟩ := h.tup_of
        cases h5 with
        | cons h6 h7 =>
          cases h7 with
          | cons h8 h9 =>
            cases h9
            replace ht := tupKey_0 ht
            unfold tupKey0 at ht
            split at ht
            · rename_i nk hk
              have kv := key_v h6 hk
              rcases kv with kv | ⟨b, rfl, kt⟩
              · exfalso
                have := leafK_not kv
                cases nk <;> simp_all [isTupK, flatNo]
              · exact ⟨p :: as, (nk, _) :: kvs, rfl, .cons ⟨b, h4, kt, ht⟩ h2, .cons ⟨hk, h8⟩ h3⟩
            · cases ht
      · cases e
    · cases e
theorem rf_dictT (ds : List PyData) (z : PyData) (h : dictTD ds = some z) : RCD K (rDictT K) ds B z := by
  unfold dictTD at h
  split at h
  · obtain ⟨ps, h1, rfl⟩ := Option.map_eq_some_iff.mp h
    refine rcd1 fun v H1 x hv Q q => ?_
    obtain ⟨a, xs, rfl, k1, k2⟩ := hv.lst_of
    obtain ⟨as, kvs, rfl, k3, k4⟩ := pairs_dq k2 h1
    refine ⟨a, as, kvs, B, rfl, x, ex_l x k1, k3, fun p es ep hp hm hsz ht => ?_⟩
    have gr : Gr B H1 (upd B p (DicO p es ep)) (upd H1 p (DicO p es ep)) := Gr.new x hp
    refine q _ _ _ gr ?_
    have k5 : KN K (upd B p (DicO p es ep)) (putAll [] kvs) (mkDict ps) := (KN.all k4 .nil).mono gr.hg
    exact .dic (.inl ⟨hm, es, ep, upd_same, hsz, ht.mono gr.hg⟩) k5.keys k5.vals
  · cases h
theorem se_dictT {ta : TA} {fl : Dn (List PyData)} (h : SA K ta fl) : SE K (tCB (rDictT K) ta) (dCb dictTD fl) := se_cb (fun B => rf_dictT) h
theorem ck_dictT {X : Cx} (h : X.K = K) (hc : X.calm = true) (hu : X.A.units + 64 < cLine) : CallR X (.type "dict") (rDictT K) := h ▸ call_dictT hc hu
end
end Fd
end

section
set_option Elab.async false
set_option linter.all false
set_option maxRecDepth 100000
set_option maxHeartbeats 2000000
/-! Base g: a list comprehension with two clauses, by meaning (the rule is the library's pe_lc2). -/
variable [Fd.Uw]
namespace Fd
open PySem PySem.Spec PyProof.Rows L2 Evl Tb
def runLc2 (g : PyData → En → Option En) (t : Dn Bool) (it1 : Dn (List PyData)) (g1 : PyData → En → Option En) (t1 : Dn Bool) (f : Dn PyData) (vs vs1 : List Nat) : List PyData → En → Option (List PyData × En)
  | [] => fun e => some ([], e)
  | d :: ds => fun e => match g d e with
    | none => none
    | some e1 => match t e1 with
      | none => none
      | some (false, e2) => runLc2 g t it1 g1 t1 f vs vs1 ds (wipeE e2 vs)
      | some (true, e2) => match it1 e2 with
        | none => none
        | some (ds1, e3) => match runLc g1 t1 f vs1 ds1 (wipeE e3 vs1) with
          | none => none
          | some (ys, e4) => match runLc2 g t it1 g1 t1 f vs vs1 ds (wipeE e4 vs) with
            | none => none
            | some (zs, e5) => some (ys ++ zs, e5)
def dLc2 (it : Dn (List PyData)) (g : PyData → En → Option En) (t : Dn Bool) (it1 : Dn (List PyData)) (g1 : PyData → En → Option En) (t1 : Dn Bool) (f : Dn PyData) (vs vs1 : List Nat) : Dn (List PyData) := fun e => match it e with
  | none => none
  | some (ds, e1) => if vsFree e1 vs = true then (match runLc2 g t it1 g1 t1 f vs vs1 ds (wipeE e1 vs) with
    | none => none
    | some (ys, e2) => if fewer ys = true then some (ys, restE e1 e2 vs) else none) else none
section
variable {K : PySem.W.Frag} {wi wi1 : TI} {g g1 : TG} {tt tt1 : TT} {te : TE} {sl sl1 vs vs1 : List Nat} {it it1 : Dn (List PyData)} {fg fg1 : PyData → En → Option En} {ft ft1 : Dn Bool} {f : Dn PyData}
theorem sl_lc2 (hi : SI K wi it) (hg : SG K g sl fg) (ht : ST K tt ft) (hi1 : SI K wi1 it1) (hg1 : SG K g1 sl1 fg1) (ht1 : ST K tt1 ft1) (he : SE K te f) (hs : ∀ i ∈ sl, i ∈ vs) (hs1 : ∀ i ∈ sl1, i ∈ vs1) (hv : ∀ i ∈ vs1, i ∈ vs) :
    SL K (tLc2 wi g tt wi1 g1 tt1 te vs vs1) (dLc2 it fg ft it1 fg1 ft1 f vs vs1) := fun W hW σ e B H a ys e' h' Q q => by
  unfold dLc2 at h'
  split at h'
  · cases h'
  rename_i ds e1 h1
  by_cases hf : vsFree e1 vs = true
  case neg =>
    rw [if_neg hf] at h'
    cases h'
  rw [if_pos hf] at h'
  split at h'
  · cases h'
  rename_i ys2 e2 h2
  by_cases hlen : fewer ys2 = true
  case neg =>
    rw [if_neg hlen] at h'
    cases h'
  rw [if_pos hlen] at h'
  cases h'
  have hlen := of_decide_eq_true hlen
  refine hi W hW σ e B H a ds e1 h1 _ fun J B1 H1 a1 g1' wk => fun Dl hD => ?_
  have hpn := free_pn a1 hf
  have hpn1 : ∀ i ∈ vs1, W.pn i = none := fun i hi => hpn i (hv i hi)
  have noD : ¬ Ow σ e1 Dl := fun z => (a1.ow z).2.1 hD
  have BD : B1 Dl = none := fresh_back a1.ex hD
  have aw : At W (L2.wipe σ vs) (wipeE e1 vs) B1 H1 := a1.wipe hpn
  refine ⟨fun i m H' => ∃ (e' : En) (B' : Hp) (acc : List V) (accd ys' : List PyData), At W (L2.wipe σ vs) e' B' H' ∧ Go (Ow σ e1) B1 H1 B' H' ∧ (∀ b, Ow (L2.wipe σ vs) e' b → Ow σ e1 b) ∧ H' Dl = some (.lst acc) ∧ B' Dl = none ∧ DqAll K B' acc accd ∧ i ≤ ds.length ∧ m = ds.length - i ∧
    runLc2 fg ft it1 fg1 ft1 f vs vs1 (ds.drop i) e' = some (ys', e2) ∧ accd ++ ys' = ys, ⟨_, _, B1, [], [], ys, aw.oth BD (fun z => noD (ow_wipe z)), (Go.refl _ _ _).put hD, fun b => ow_wipe, upd_same, BD, .nil, Nat.zero_le _, rfl, h2, rfl⟩, ?_⟩
  rintro i m H' ⟨e', B', acc, accd, ys', a', g', o', hl', hB', hd', hi', rfl, hr', hys⟩
  by_cases hlt : i < ds.length
  · refine .inr ⟨wk.go i B' H' g'.hg a'.ex hlt, fun H2 => ∃ (e' : En) (B' : Hp) (acc : List V) (accd ys' : List PyData), At W (L2.wipe σ vs) e' B' H2 ∧ Go (Ow σ e1) B1 H1 B' H2 ∧ (∀ b, Ow (L2.wipe σ vs) e' b → Ow σ e1 b) ∧ H2 Dl = some (.lst acc) ∧ B' Dl = none ∧ DqAll K B' acc accd ∧
      runLc2 fg ft it1 fg1 ft1 f vs vs1 (ds.drop (i + 1)) e' = some (ys', e2) ∧ accd ++ ys' = ys, ?_, ?_⟩
    · rintro H2 ⟨e', B', acc, accd, ys', p1, p2, p3, p4, p5, p6, p7, p8⟩
      exact ⟨ds.length - (i + 1), by omega, e', B', acc, accd, ys', p1, p2, p3, p4, p5, p6, hlt, rfl, p7, p8⟩
    intro x H2 hy
    obtain ⟨B2, gr, hdx⟩ := wk.yl i ds[i] B' H' x H2 g'.hg a'.ex (List.getElem?_eq_getElem hlt) hy
    rw [List.drop_eq_getElem_cons hlt] at hr'
    unfold runLc2 at hr'
    have a2 := a'.gr gr
    have g2 : Go (Ow σ e1) B1 H1 B2 H2 := g'.trans (.gr gr)
    split at hr'
    · cases hr'
    rename_i e3 h3
    refine hg W hW (L2.wipe σ vs) e' B2 H2 x _ a2 hdx e3 h3 _ fun σ3 a3 o3 w3 l3 => ?_
    have sw : L2.wipe σ3 vs = L2.wipe σ vs := by
      rw [← wipe_wipe σ vs]
      exact wipe_same l3 fun j hj => w3 j fun z => hj (hs j z)
    refine ⟨sw, ?_⟩
    have o3' : ∀ b, Ow σ3 e3 b → Ow σ e1 b := fun b hb => o' b (o3 b hb)
    have no3 : ¬ Ow σ3 e3 Dl := fun z => noD (o3' _ z)
    have hl2 : H2 Dl = some (.lst acc) := gr.h12 _ _ hl'
    have hne2 : H2 Dl ≠ none := by rw [hl2]; exact fun z => nomatch z
    have hB2 : B2 Dl = none := gr.sep Dl hB' (by rw [hl']; exact fun z => nomatch z)
    split at hr'
    · cases hr'
    · rename_i e4 h4
      refine ht W hW σ3 e3 B2 H2 a3 _ e4 h4 _ fun B4 H4 a4 g4 => ?_
      rw [if_neg Bool.false_ne_true]
      have a5 := a4.wipe hpn
      rw [sw] at a5
      refine ⟨wipeE e4 vs, B4, acc, accd, ys', a5, g2.trans (g4.go.mono o3'), fun b hb => o3' b (g4.ow b ?_), g4.go.fr _ _ no3 hl2, g4.go.sp Dl no3 hB2 hne2, dpa_mono (gr.hg.trans g4.go.hg) hd', hr', hys⟩
      rw [← sw] at hb
      exact ow_wipe hb
    · rename_i e4 h4
      refine ht W hW σ3 e3 B2 H2 a3 _ e4 h4 _ fun B4 H4 a4 g4 => ?_
      rw [if_pos rfl]
      split at hr'
      · cases hr'
      rename_i ds1 e5 h5
      split at hr'
      · cases hr'
      rename_i ys3 e6 h6
      split at hr'
      · cases hr'
      rename_i zs3 e7 h7
      cases hr'
      have hl4 := g4.go.fr _ _ no3 hl2
      have hB4 := g4.go.sp Dl no3 hB2 hne2
      have no4 : ¬ Ow σ3 e4 Dl := fun z => no3 (g4.ow _ z)
      refine hi1 W hW σ3 e4 B4 H4 a4 ds1 e5 h5 _ fun J1 B5 H5 a5 g5 wk1 => ?_
      have hl5 := g5.go.fr _ _ no4 hl4
      have hB5 := g5.go.sp Dl no4 hB4 (by rw [hl4]; exact fun z => nomatch z)
      have o5 : ∀ b, Ow σ3 e5 b → Ow σ e1 b := fun b hb => o3' b (g4.ow b (g5.ow b hb))
      have G5 : Go (Ow σ e1) B1 H1 B5 H5 := (g2.trans (g4.go.mono o3')).trans (g5.go.mono fun b hb => o3' b (g4.ow b hb))
      have swv : L2.wipe (L2.wipe σ3 vs1) vs = L2.wipe σ vs := by
        rw [← sw]
        exact wipe_same (wipe_len σ3 vs1) fun j hj => by rw [Fd.wipe_get, if_neg fun z => hj (hv j z)]
      refine ⟨fun j k H' => ∃ (e' : En) (B' : Hp) (acc : List V) (accd ysr : List PyData), At W (L2.wipe σ3 vs1) e' B' H' ∧ Go (Ow σ e1) B1 H1 B' H' ∧ Ex B5 B' ∧ (∀ b, Ow (L2.wipe σ3 vs1) e' b → Ow σ e1 b) ∧ H' Dl = some (.lst acc) ∧ B' Dl = none ∧ DqAll K B' acc accd ∧ j ≤ ds1.length ∧ k = ds1.length - j ∧
        runLc fg1 ft1 f vs1 (ds1.drop j) e' = some (ysr, e6) ∧ accd ++ (ysr ++ zs3) = ys, ⟨_, _, B5, acc, accd, ys3, a5.wipe hpn1, G5, .refl _, fun b hb => o5 b (ow_wipe hb), hl5, hB5, dpa_mono ((gr.hg.trans g4.go.hg).trans g5.go.hg) hd', Nat.zero_le _, rfl, h6, hys⟩, ?_⟩
      rintro j k H6 ⟨e', B', acc, accd, ysr, a', g', x5, o', hl', hB', hd', hj', rfl, hr', hys⟩
      by_cases hlt1 : j < ds1.length
      · refine .inr ⟨wk1.go j B' H6 x5 a'.ex hlt1, fun H2 => ∃ (e' : En) (B' : Hp) (acc : List V) (accd ysr : List PyData), At W (L2.wipe σ3 vs1) e' B' H2 ∧ Go (Ow σ e1) B1 H1 B' H2 ∧ Ex B5 B' ∧ (∀ b, Ow (L2.wipe σ3 vs1) e' b → Ow σ e1 b) ∧ H2 Dl = some (.lst acc) ∧ B' Dl = none ∧ DqAll K B' acc accd ∧
          runLc fg1 ft1 f vs1 (ds1.drop (j + 1)) e' = some (ysr, e6) ∧ accd ++ (ysr ++ zs3) = ys, ?_, ?_⟩
        · rintro H2 ⟨e', B', acc, accd, ysr, p1, p2, p2', p3, p4, p5, p6, p7, p8⟩
          exact ⟨ds1.length - (j + 1), by omega, e', B', acc, accd, ysr, p1, p2, p2', p3, p4, p5, p6, hlt1, rfl, p7, p8⟩
        intro x H2 hy
        obtain ⟨B2, gr, hdx⟩ := wk1.yl j ds1[j] B' H6 x H2 x5 a'.ex (List.getElem?_eq_getElem hlt1) hy
        rw [List.drop_eq_getElem_cons hlt1] at hr'
        unfold runLc at hr'
        have a2 := a'.gr gr
        have g2 : Go (Ow σ e1) B1 H1 B2 H2 := g'.trans (.gr gr)
        split at hr'
        · cases hr'
        rename_i e8 h8
        refine hg1 W hW (L2.wipe σ3 vs1) e' B2 H2 x _ a2 hdx e8 h8 _ fun σ8 a8 o8 w8 l8 => ?_
        have sw1 : L2.wipe σ8 vs1 = L2.wipe σ3 vs1 := by
          rw [← wipe_wipe σ3 vs1]
          exact wipe_same l8 fun j hj => w8 j fun z => hj (hs1 j z)
        refine ⟨sw1, ?_⟩
        have o8' : ∀ b, Ow σ8 e8 b → Ow σ e1 b := fun b hb => o' b (o8 b hb)
        have no8 : ¬ Ow σ8 e8 Dl := fun z => noD (o8' _ z)
        have hl2 : H2 Dl = some (.lst acc) := gr.h12 _ _ hl'
        have hne2 : H2 Dl ≠ none := by rw [hl2]; exact fun z => nomatch z
        have hB2 : B2 Dl = none := gr.sep Dl hB' (by rw [hl']; exact fun z => nomatch z)
        split at hr'
        · cases hr'
        · rename_i e9 h9
          refine ht1 W hW σ8 e8 B2 H2 a8 _ e9 h9 _ fun B9 H9 a9 g9 => ?_
          rw [if_neg Bool.false_ne_true]
          have a10 := a9.wipe hpn1
          rw [sw1] at a10
          refine ⟨wipeE e9 vs1, B9, acc, accd, ysr, a10, g2.trans (g9.go.mono o8'), (x5.trans gr.hg).trans g9.go.hg, fun b hb => o8' b (g9.ow b ?_), g9.go.fr _ _ no8 hl2, g9.go.sp Dl no8 hB2 hne2, dpa_mono (gr.hg.trans g9.go.hg) hd', hr', hys⟩
          rw [← sw1] at hb
          exact ow_wipe hb
        · rename_i e9 h9
          refine ht1 W hW σ8 e8 B2 H2 a8 _ e9 h9 _ fun B9 H9 a9 g9 => ?_
          rw [if_pos rfl]
          split at hr'
          · cases hr'
          rename_i y e10 h10
          split at hr'
          · cases hr'
          rename_i ys4 e11 h11
          cases hr'
          have hl9 := g9.go.fr _ _ no8 hl2
          have hB9 := g9.go.sp Dl no8 hB2 hne2
          have no9 : ¬ Ow σ8 e9 Dl := fun z => no8 (g9.ow _ z)
          refine he W hW σ8 e9 B9 H9 a9 y e10 h10 _ fun v B10 H10 a10 g10 d10 => ?_
          have hl10 := g10.go.fr _ _ no9 hl9
          have hB10 := g10.go.sp Dl no9 hB9 (by rw [hl9]; exact fun z => nomatch z)
          have no10 : ¬ Ow σ8 e10 Dl := fun z => no9 (g10.ow _ z)
          have hal2 := DqAll.length hd'
          have hal : accd.length + 1 ≤ 40000 := by
            have e := congrArg List.length hys
            simp only [List.length_append, List.length_cons] at e
            omega
          have a11 := (a10.oth (o := .lst (acc ++ [v])) hB10 no10).wipe hpn1
          rw [sw1] at a11
          refine ⟨acc, hl10, sz_lt (by omega), wipeE e10 vs1, B10, acc ++ [v], accd ++ [y], ys4, a11, Go.put ((g2.trans (g9.go.mono o8')).trans (g10.go.mono fun b hb => o8' b (g9.ow b hb))) hD, ((x5.trans gr.hg).trans g9.go.hg).trans g10.go.hg, fun b hb => o8' b (g9.ow b (g10.ow b ?_)), upd_same, hB10, ?_, h11, ?_⟩
          · rw [← sw1] at hb
            exact ow_wipe hb
          · exact (dpa_mono ((gr.hg.trans g9.go.hg).trans g10.go.hg) hd').append (.one d10)
          · rw [List.append_assoc]
            exact hys
      · have ej : j = ds1.length := by omega
        subst ej
        rw [List.drop_length] at hr'
        unfold runLc at hr'
        cases hr'
        rw [List.nil_append] at hys
        refine .inl ⟨wk1.st B' H6 x5 a'.ex, ?_⟩
        have a12 := a'.wipe hpn
        rw [swv] at a12
        refine ⟨wipeE e6 vs, B', acc, accd, zs3, a12, g', fun b hb => o' b ?_, hl', hB', hd', h7, hys⟩
        rw [← swv] at hb
        exact ow_wipe hb
  · have ei : i = ds.length := by omega
    subst ei
    rw [List.drop_length] at hr'
    unfold runLc2 at hr'
    cases hr'
    rw [List.append_nil] at hys
    subst hys
    refine .inl ⟨wk.st B' H' g'.hg a'.ex, ?_⟩
    exact q Dl acc B' H' (a1.rest hf g'.hg a') (g1'.trans ⟨g', fun b hb => o' b (ow_rest hf hb)⟩) (g1'.go.dm Dl hD) hl' hB' hd'
end
end Fd
end

section
set_option Elab.async false
set_option linter.all false
set_option maxRecDepth 100000
set_option maxHeartbeats 1000000
/-! Base g: the forms that the walk writes. -/
variable [Fd.Uw]
namespace Fd
open PySem PySem.Spec PyProof.Rows L2 Evl Tb
section
variable {X : Cx} {K : PySem.W.Frag} {o e f : Expr} {apos cpos : Pos} {td ty tx : TE}
theorem pek_qget1 (h : X.K = K) (hu : X.A.units + 64 < cLine) (ho : PE X o td) (he : PE X e ty) (m : M1 X o "get" apos e cpos) : PE X (.Call (.Attribute o "get" apos) [e] [] cpos) (tQGet1 K td ty) := h ▸ pe_qget1 hu ho he m
theorem pek_qget2 (h : X.K = K) (hu : X.A.units + 64 < cLine) (ho : PE X o td) (he : PE X e ty) (hf : PE X f tx) (m : M2 X o "get" apos e f cpos) : PE X (.Call (.Attribute o "get" apos) [e, f] [] cpos) (tQGet2 K td ty tx) := h ▸ pe_qget2 hu ho he hf m
end
@[simp] theorem getQ_list (ds : List PyData) (y : PyData) : getQ (.list ds) y = none := rfl
@[simp] theorem getQ_tuple (ds : List PyData) (y : PyData) : getQ (.tuple ds) y = none := rfl
@[simp] theorem dGet1_e {f g : Dn PyData} {e : En} : dGet1 f g e = dBind f (fun x => match x with
  | .dict ds => dBind g fun y => dLift ((getQ (.dict ds) y).map fun r => r.getD .none)
  | _ => fun _ => none) e := rfl
@[simp] theorem dGet2_e {f g j : Dn PyData} {e : En} : dGet2 f g j e = dBind f (fun x => match x with
  | .dict ds => dBind g fun y => dBind j fun z => dLift ((getQ (.dict ds) y).map fun r => r.getD z)
  | _ => fun _ => none) e := rfl
end Fd
end

section
set_option Elab.async false
set_option linter.all false
set_option maxRecDepth 100000
set_option maxHeartbeats 1000000
/-! Base h, dicts of one's own: {}, d[k] = v. -/
variable [Fd.Uw]
namespace L2
open PySem PySem.Spec PyProof.Rows Evl
open Fd (OwnT OwnD)
/-- o[y] = v of a dict of one's own -/
def rSetQ (K : PySem.W.Frag) : TSet := fun o y v H Q => ∃ p oo B, o = .ref p ∧ H p = some oo ∧ Ex B H ∧
  ((∃ (ks : List (Key × V)) (k : Key), oo = .dK ks ∧ y = kV k ∧ ks.length < sizeLine ∧ Q (upd H p (.dK (putK ks k v)))) ∨
   (∃ (k : Key) (es : Array DictEntry) (ep : Nat), oo = DicO p es ep ∧ OwnT K B es [] ∧ (p == sysModules) = false ∧ y = kV k ∧ Q (upd H p (.dK [(k, v)]))) ∨
   (∃ (b : Addr) (k : NestedKey) (kvs : List (NestedKey × V)), y = .ref b ∧ KeyT K B b k ∧ flatNo k = true ∧ kvs.length < sizeLine ∧
    ((p == sysModules) = false ∧ ∃ es ep, oo = DicO p es ep ∧ OwnT K B es kvs) ∧ ((p == sysModules) = false → ∀ es ep, OwnT K B es (putK kvs k v) → Q (upd H p (DicO p es ep)))))
theorem raw_nilM {P : Program} {w : World} {h : Heap} {a : Addr} {ep : Nat} (x : h.DictRaw a #[] ep) : h.DictOf (mixKind P w) a [] := by
  obtain ⟨o, h1, h2, h3⟩ := x
  exact ⟨o, #[], ep, h1, h2, h3, fun e he => by simp at he, .nil, .nil⟩
theorem entR_at {X : Cx} {pins : List (Addr × Obj)} {σ : St} {B H : Hp} {s : Shared} (I : Inv X pins σ H s) (x : Ex B H) : ∀ {ys : List (NestedKey × Addr × Value)} {kvs : List (NestedKey × V)}, EntR X.K B ys kvs → ∀ y ∈ ys, (nestedKind X.prog X.w).is s.heap y.1 y.2.1
  | _, _, .nil, y, hy => nomatch hy
  | _, _, .cons h t, y, hy => by
    rcases List.mem_cons.mp hy with e | hy
    · subst e
      exact (h.1.2.1.mono x).at I
    · exact entR_at I x t y hy
theorem set_own {X : Cx} (hu : X.A.units + 64 < cLine) : PSet X (rSetQ X.K) := by
  intro pins s σ H o i v ov iv u Q I ro ri rv h
  obtain ⟨p, oo, B, rfl, hp, xb, h⟩ := h
  cases (show ov = Value.ref p from ro)
  rcases h with ⟨ks, k, rfl, rfl, hz, q⟩ | ⟨k, es, ep, rfl, ot, hm, rfl, q⟩ | ⟨b, k, kvs, rfl, kt, fl, hz, ho, q⟩
  · exact d_setItem (by omega) I (DPut.k hp hz) ri rv fun s' I' => ⟨_, I', q⟩
  · obtain ⟨ys, h2, h3, h4, h5⟩ := ot
    cases h4
    have e0 : es = #[] := Array.eq_empty_of_size_eq_zero h5
    subst e0
    have rw' := (show ObjOk X.prog X.w H s.heap p (DicO p #[] ep) from I.hok p _ hp).1
    have dd : s.heap.DictOf (mixKind X.prog X.w) p [] := raw_nilM rw'
    refine wpAny_setItem_pairs (hsz := Nat.zero_le _) (kV_is ri) dd fun h' dd' hs => ?_
    have he : ∃ q, h'.get? p = some q := let ⟨q, _, _, hq, _⟩ := dd'; ⟨q, hq⟩
    exact ⟨_, d_write (ob := .dK [(k, v)]) I (by rw [hp]; exact True.intro) hs he (dk_new (by show 1 ≤ _; rw [sizeLine_eq]; omega) hm (.cons ⟨rfl, rv⟩ .nil) dd'), q⟩
  · cases (show iv = Value.ref b from ri)
    have fin : ∀ (ys : List (NestedKey × Addr × Value)), (p == sysModules) = false → Mut (H p) → s.heap.DictOfH (nestedKind X.prog X.w) p ys → EntR X.K B ys kvs → wpAny (model X.prog X.w) X.A (setItem (.ref p) (.ref b) u) (fun _ s' => ∃ H', Inv X pins σ H' s' ∧ Q H') X.xe s := fun ys hm mu dd rel => by
      refine wpAny_setItem_heap (nest_room hu) ((kt.mono xb).at I) dd (fun h' dd' hs => ?_) (by rw [rel.length]; omega)
      · obtain ⟨o', es, ep, h1, h2, h3, h4, h5, h6⟩ := dd'
        have rel2 : EntR X.K B (storedH ys k b u) (putK kvs k v) := rel.put (y := (k, b, u)) (x := (k, v)) ⟨⟨rfl, kt, rv⟩, fl⟩
        have hsz : es.size = (storedH ys k b u).length := by
          have := congrArg List.length h4
          simpa using this
        refine ⟨_, d_write (ob := DicO p es ep) I mu hs ⟨o', h1⟩ ⟨⟨o', h1, h2, h3⟩, ⟨o', h1⟩, fun h1 h2 x e => x.at e⟩, q hm es ep ⟨_, fun P w => h4.trans (EntR.map _ P _ w rel2), h6, rel2, hsz⟩⟩
    obtain ⟨hm, es, ep, rfl, ys, h2, h3, h4, h5⟩ := ho
    obtain ⟨o', ho', hc', hd'⟩ := (show ObjOk X.prog X.w H s.heap p (DicO p es ep) from I.hok p _ hp).1
    exact fin ys hm (by rw [hp]; exact True.intro) ⟨o', es, ep, ho', hc', hd', h2 _ _, entR_at I xb h4, h3⟩ h4
end L2
namespace Fd
open PySem PySem.Spec PyProof.Rows L2 Evl Tb
section
variable {K : PySem.W.Frag} {te tb : TE} {f g : Dn PyData}
/-- {} -/
def dQ0 : Dn (List (PyData × PyData)) := dK []
theorem own_new {B : Hp} {p : Addr} {ep : Nat} (hm : (p == sysModules) = false) : OwnD K B p (DicO p #[] ep) [] := .inr ⟨hm, Nat.zero_le _, #[], ep, [], rfl, ⟨[], fun _ _ => rfl, List.nodup_nil, .nil, rfl⟩, .nil⟩
theorem sq_new : SDq K (tExE tDNewK) dQ0 := fun W hW σ e B H a ds e' h Q q p hp => by
  obtain ⟨rfl, e1⟩ := dK_some h
  subst e1
  have hB := fresh_back a.ex hp
  have hn : ¬ Ow σ e' p := fun z => (a.ow z).2.1 hp
  refine ⟨p, [], rfl, upd_same, fun z => absurd rfl z, fun _ hm ep => ?_⟩
  rw [upd_upd]
  exact q p _ B (upd H p (DicO p #[] ep)) (a.oth hB hn) ⟨(Go.refl _ B H).put hp, fun _ h => h⟩ hp upd_same hB (own_new hm)
def sAsgQ (fq : Dn (List (PyData × PyData))) (i : Nat) : Ds := fun e => match fq e with
  | some (xs, e1) => (setQ i xs e1).map .nx
  | none => none
theorem ss_asgQ {i : Nat} {fq : Dn (List (PyData × PyData))} (h : SDq K te fq) : SS K (tAsg te (gName i)) (sAsgQ fq i) := fun W hW σ e B H a r hr D q => by
  unfold sAsgQ at hr
  split at hr
  · rename_i xs e1 h1
    obtain ⟨e2, h2, rfl⟩ := Option.map_eq_some_iff.mp hr
    unfold setQ at h2
    split at h2
    · rename_i hc
      cases h2
      refine h W hW σ e B H a xs e1 h1 _ fun p o B1 H1 a1 g1 p0 hp pB hd => q _ B1 H1 (a1.setC (so := .q xs) (xs := .q xs) rfl rfl (can_pn a1 hc) (fun z => (a.ow (g1.ow p z)).2.1 p0) (a.nm p p0) pB hp (hW ▸ hd)) (a.goM g1)
    · cases h2
  · cases hr
/-- d[k] = v; a dict whose keys are ints and texts, or one whose keys are flat tuples -/
def putQ (ds : List (PyData × PyData)) (k v : PyData) : Option (List (PyData × PyData)) :=
  if decide (ds.length < 90000) && (ds.all (fun d => (keyI d.1).isSome) && (keyI k).isSome || ds.all (fun d => tupKey d.1) && tupKey k) then some (putD ds k v) else none
def sSetQ (i : Nat) (fv fk : Dn PyData) : Ds := fun e => match fv e with
  | none => none
  | some (v, e1) => match e1[i]? with
    | some (.q _) => match fk e1 with
      | none => none
      | some (k, e2) => match e2[i]? with
        | some (.q ds) => (putQ ds k v).map fun ds' => .nx (e2.set i (.q ds'))
        | _ => none
    | _ => none
theorem keyI_tup {k : PyData} (h : (keyI k).isSome = true) : tupKey k = false := by
  cases k <;> first | (cases h; done) | rfl
theorem tup_val {B : Hp} {k : PyData} {v : V} (h : Dq K B v k) (ht : tupKey k = true) : ∃ b nk, v = .ref b ∧ keyD k = some nk ∧ KeyT K B b nk ∧ flatNo nk = true := by
  replace ht := tupKey_0 ht
  unfold tupKey0 at ht
  split at ht
  · rename_i nk hk
    rcases key_v h hk with kv | ⟨b, rfl, kt⟩
    · exfalso
      have := leafK_not kv
      cases nk <;> simp_all [isTupK, flatNo]
    · exact ⟨b, nk, rfl, hk, kt, ht⟩
  · cases ht
theorem ss_setQ {i : Nat} (hv : SE K te f) (hk : SE K tb g) : SS K (tAsg te (gSub (tVar i) tb (rSetQ K))) (sSetQ i f g) := fun W hW σ e B H a rs hrs D q => by
  unfold sSetQ at hrs
  split at hrs
  · cases hrs
  rename_i v e1 h1
  split at hrs
  case h_2 => cases hrs
  rename_i ds0 i0
  split at hrs
  · cases hrs
  rename_i k e2 h2
  split at hrs
  case h_2 => cases hrs
  rename_i ds i1
  obtain ⟨ds', h3, rfl⟩ := Option.map_eq_some_iff.mp hrs
  unfold putQ at h3
  split at h3
  case isFalse => cases h3
  rename_i hc
  cases h3
  rw [Bool.and_eq_true] at hc
  have hl := of_decide_eq_true hc.1
  refine hv W hW σ e B H a v e1 h1 _ fun w B1 H1 a1 g1 d1 => ?_
  obtain ⟨p, o0, k1, _⟩ := a1.own i _ (.q ds0) i0 rfl
  refine ⟨.ref p, k1, hk W hW σ e1 B1 H1 a1 k e2 h2 _ fun y B2 H2 a2 g2 d2 => ?_⟩
  obtain ⟨p', oo, k2, kM, k3, k4, k5⟩ := a2.own i _ (.q ds) i1 rfl
  rw [k1] at k2
  cases k2
  have k5 : OwnD K B2 p oo ds := hW ▸ k5
  have dv : Dq K B2 w v := dp_mono g2.go.hg d1
  have sz : (90000 : Nat) < sizeLine := by rw [sizeLine_eq]; omega
  have fin : ∀ o' : HO, OwnD K B2 p o' (putD ds k v) → D.nx σ (upd H2 p o') := fun o' ho => by
    obtain ⟨a3, g3⟩ := a2.putC (s' := .q (putD ds k v)) (ys := .q (putD ds k v)) (vs := o') i1 rfl rfl rfl k1 (hW ▸ ho)
    exact q σ B2 _ a3 (((a.goM g1).trans (a1.goM g2)).trans g3)
  refine ⟨p, oo, B2, rfl, k4, a2.ex, ?_⟩
  rcases Bool.or_eq_true _ _ ▸ hc.2 with c | c <;> rw [Bool.and_eq_true] at c <;> obtain ⟨c1, c2⟩ := c
  · obtain ⟨kk, hkk⟩ := Option.isSome_iff_exists.mp c2
    rcases k5 with ⟨ks, rfl, r, hne⟩ | ⟨m0, m2, es, ep, kvs, rfl, m3, m7⟩
    · refine .inl ⟨ks, kk, rfl, keyI_v d2 hkk, by rw [r.length]; omega, fin _ (.inl ⟨_, rfl, r.put (keyI_key hkk) dv, ?_⟩)⟩
      unfold putK
      split
      · intro z
        exact hne (List.map_eq_nil_iff.mp z)
      · exact fun z => by simp at z
    · obtain ⟨ys, m3, m4, m5, m6⟩ := m3
      cases m7 with
      | nil =>
        have r1 : KVD K B2 [(kk, w)] (putD [] k v) := .cons ⟨keyI_key hkk, dv⟩ .nil
        exact .inr (.inl ⟨kk, es, ep, rfl, ⟨ys, m3, m4, m5, m6⟩, m0, keyI_v d2 hkk, fin _ (.inl ⟨_, rfl, r1, fun z => nomatch z⟩)⟩)
      | cons r t =>
        exfalso
        cases m5 with
        | cons r2 t2 =>
          have e1 := List.all_eq_true.mp c1 _ (List.mem_cons_self ..)
          have e2 := r2.2
          rw [← r2.1.1] at e2
          obtain ⟨z, hz⟩ := Option.isSome_iff_exists.mp e1
          have e3 := r.1
          rw [keyI_key hz] at e3
          have e4 := Option.some.inj e3
          rw [← e4] at e2
          cases z <;> cases e2
  · obtain ⟨b, nk, rfl, hnk, kt, fl⟩ := tup_val d2 c2
    rcases k5 with ⟨ks, rfl, r, hne⟩ | ⟨m0, m2, es, ep, kvs, rfl, m3, m7⟩
    · exfalso
      cases r with
      | nil => exact hne rfl
      | cons r t =>
        have e1 := tupKey_0 (List.all_eq_true.mp c1 _ (List.mem_cons_self ..))
        unfold tupKey0 at e1
        rw [r.1] at e1
        rename_i x _ _ _
        obtain ⟨xk, xv⟩ := x
        cases xk <;> cases e1
    · refine .inr (.inr ⟨b, nk, kvs, rfl, kt, fl, by rw [m7.length]; omega, ⟨m0, es, ep, rfl, m3⟩, fun hm es ep ho => fin _ (.inr ⟨hm, ?_, es, ep, _, rfl, ho, m7.put hnk dv⟩)⟩)
      have := putD_len ds k v
      omega
end
@[simp] theorem dQ0_e {e : En} : dQ0 e = some ([], e) := rfl
@[simp] theorem sAsgQ_e {e : En} {fq : Dn (List (PyData × PyData))} {i : Nat} : sAsgQ fq i e = (match fq e with
  | some (xs, e1) => (setQ i xs e1).map .nx
  | none => none) := rfl
@[simp] theorem sSetQ_e {e : En} {fv fk : Dn PyData} {i : Nat} : sSetQ i fv fk e = (match fv e with
  | none => none
  | some (v, e1) => match e1[i]? with
    | some (.q _) => match fk e1 with
      | none => none
      | some (k, e2) => match e2[i]? with
        | some (.q ds) => (putQ ds k v).map fun ds' => .nx (e2.set i (.q ds'))
        | _ => none
    | _ => none) := rfl
end Fd
namespace L2
open PySem PySem.Spec PyProof.Rows Evl
theorem set_ownK {X : Cx} {K : PySem.W.Frag} (h : X.K = K) (hu : X.A.units + 64 < cLine) : PSet X (rSetQ K) := h ▸ set_own hu
end L2
namespace Fd
open PySem PySem.Spec PyProof.Rows L2 Evl Tb
theorem hv_upd {K : PySem.W.Frag} {B H : Hp} {q : Addr} {o : HO} (hq : H q = none) : ∀ {vs : List V} {as : List Ar} {ok : Addr → Prop}, HvAll K B H ok vs as → HvAll K B (upd H q o) ok vs as
  | [], [], _, _ => trivial
  | v :: vs, .d x :: as, _, ⟨h1, h2⟩ => ⟨h1, hv_upd hq h2⟩
  | v :: vs, .l xs :: as, _, ⟨p, us, h1, h2, h3, h4, h5, h6⟩ => ⟨p, us, h1, h2, by rw [upd_ne (fun z => by subst z; rw [hq] at h3; cases h3)]; exact h3, h4, h5, hv_upd hq h6⟩
  | v :: vs, .q xs :: as, _, ⟨p, us, h1, h2, h3, h4, h5, h6⟩ => ⟨p, us, h1, h2, by rw [upd_ne (fun z => by subst z; rw [hq] at h3; cases h3)]; exact h3, h4, h5, hv_upd hq h6⟩
  | [], _ :: _, _, h => h.elim
  | _ :: _, [], _, h => h.elim
section
variable {K : PySem.W.Frag} {tr : TA}
theorem ss_parT {i j : Nat} {fx : Dn (List Ar)} (h : SX K tr fx) : SS K (tAsg (tTup tr) (gTup K 2 (gCons (gName i) (gCons (gName j) gNil)))) (sParX fx [i, j]) := fun W hW σ e B H a r hr D q => by
  unfold sParX at hr
  split at hr
  · rename_i ds e1 h1
    obtain ⟨e2, h2, rfl⟩ := Option.map_eq_some_iff.mp hr
    refine h W hW σ e B H a ds e1 h1 _ fun vs B1 H1 a1 g1 d1 => ?_
    have hw : ∀ p, H1 p = none → vs.length = 2 ∧ ∃ σ', σ' = ([i, j].zip vs).foldl (fun s p => s.set p.1 (some p.2)) σ ∧ At W σ' e2 B1 (upd H1 p (.tup vs)) := fun p hp => by
      have nop : ¬ Ow σ e1 p := fun z => (a1.ow z).2.1 hp
      obtain ⟨h0, σ', k1, k2⟩ := setsX_ok [i, j] vs ds σ e1 e2 B1 _ _ (a1.oth (o := .tup vs) (fresh_back a1.ex hp) nop) (hW ▸ hv_upd hp d1) (fun b hb => ⟨a.nm b hb, fun z => (a.ow (g1.ow b z)).2.1 hb⟩) h2
      exact ⟨h0.symm, σ', k1, k2⟩
    have hl : vs.length ≤ 2 := by
      have : ∀ (as : List Ar) (ok : Addr → Prop), HvAll K B1 H1 ok vs as → sSetsX [i, j] as e1 = some e2 → vs.length ≤ 2 := by
        intro as ok hv hs
        have : ∀ (is : List Nat) (as : List Ar) (e : En) (vs : List V) (ok : Addr → Prop), HvAll K B1 H1 ok vs as → ∀ e2, sSetsX is as e = some e2 → vs.length ≤ is.length := by
          intro is
          induction is with
          | nil =>
            intro as e vs ok hv e2 hs
            cases as with
            | nil => cases vs with
              | nil => exact Nat.le_refl _
              | cons v vs => exact hv.elim
            | cons a as => cases a <;> cases hs
          | cons i is ih =>
            intro as e vs ok hv e2 hs
            cases vs with
            | nil => exact Nat.zero_le _
            | cons v vs =>
              cases as with
              | nil => exact hv.elim
              | cons a as =>
                refine Nat.succ_le_succ ?_
                cases a with
                | d x =>
                  unfold sSetsX at hs
                  split at hs
                  · exact ih as _ vs _ hv.2 _ hs
                  · cases hs
                | l x =>
                  obtain ⟨p, us, _, _, _, _, _, h6⟩ := hv
                  unfold sSetsX at hs
                  split at hs
                  · exact ih as _ vs _ h6 _ hs
                  · cases hs
                | q x =>
                  obtain ⟨p, us, _, _, _, _, _, h6⟩ := hv
                  unfold sSetsX at hs
                  split at hs
                  · exact ih as _ vs _ h6 _ hs
                  · cases hs
        exact this [i, j] as e1 vs ok hv e2 hs
      exact this ds _ d1 h2
    refine ⟨sz_of (by omega), fun p hp => ?_⟩
    obtain ⟨h0, _, rfl, k2⟩ := hw p hp
    have nop : ¬ Ow σ e1 p := fun z => (a1.ow z).2.1 hp
    refine ⟨p, vs, rfl, st_of upd_same, h0, ?_⟩
    obtain ⟨v, w, rfl⟩ : ∃ v w, vs = [v, w] := match vs, h0 with
      | [v, w], _ => ⟨v, w, rfl⟩
    exact ⟨v, [w], rfl, w, [], rfl, rfl, q _ B1 _ k2 ((a.goM g1).trans (a1.goM ⟨(Go.refl _ B1 H1).put hp, fun _ h => h⟩))⟩
  · cases hr
end
end Fd
namespace L2
open PySem PySem.Spec PyProof.Rows Evl
theorem pgk_tup {X : Cx} {K : PySem.W.Frag} (h : X.K = K) {pos : Pos} {es : List Expr} {k : Nat} {t : TGs} {n : Nat} (hc : X.calm = true) (hg : PGs X es t)
    (hn : (assignEach es X.env).length = n := by rfl) (hst : (assignEach es X.env).findIdx? (·.1) = none := by rfl) : PG X (.Tuple es k pos) (gTup K n t) := h ▸ pg_tup hc hg hn hst
end L2
end

section
set_option Elab.async false
set_option linter.all false
set_option maxRecDepth 100000
set_option maxHeartbeats 1000000
/-! Base h: tuple(enumerate(a row)) as data. -/
variable [Fd.Uw]
namespace L2
open PySem PySem.Spec PyProof.Rows Evl
/-- an enumerate object that gives number i next; it may still know the tuple that it gave out before -/
def EnSt (h : Heap) (e it : Addr) (i : Nat) : Prop := (∃ old, IsEnum h e it i old) ∨ ∃ old T f oT, IsEnumHeld h e it i old T f ∧ h.get? T = some oT ∧ T ≠ e ∧ T ≠ it
theorem EnSt.ty {st : Shared} {e it : Addr} {i : Nat} (x : EnSt st.heap e it i) : st.TypeIs (.ref e) "enumerate" := by
  rcases x with ⟨_, x⟩ | ⟨_, _, _, _, x, _⟩ <;> exact ⟨_, x, rfl⟩
theorem EnSt.lt {h : Heap} {e it : Addr} {i : Nat} (x : EnSt h e it i) : e < h.objs.size := by
  rcases x with ⟨_, x⟩ | ⟨_, _, _, _, x, _⟩ <;> exact Heap.lt_size x
theorem EnSt.keep {h h' : Heap} {e it : Addr} {i : Nat} {S : Addr} (x : EnSt h e it i) (k : ∀ b o, b ≠ S → h.get? b = some o → h'.get? b = some o) (hS : e ≠ S) (hT : ∀ T o, h.get? T = some o → T = S → ∃ o', h'.get? T = some o') : EnSt h' e it i := by
  rcases x with ⟨a, x⟩ | ⟨a, T, f, o, x, y, z⟩
  · exact .inl ⟨a, k e _ hS x⟩
  · by_cases c : T = S
    · obtain ⟨o', ho⟩ := hT T o y c
      exact .inr ⟨a, T, f, o', k e _ hS x, ho, z⟩
    · exact .inr ⟨a, T, f, o, k e _ hS x, k T _ c y, z⟩
section
variable {prog : Program} {w : World} {A : Around} {E : Value → Shared → Prop} {st : Shared} {e it T : Addr} {fp : List Addr} {n i : Nat} {P : Nat → Value → Prop} {Sd : Nat → Heap → Prop} {old : Value} {f : Bool} {oT : Obj}
theorem enx_held {Q : Value → Shared → Prop} (D : Draws prog w A it fp n P Sd) (ee : IsEnumHeld st.heap e it i old T f) (tt : st.heap.get? T = some oT) (te : T ≠ e) (ti : T ≠ it) (ss : Sd i st.heap) (lt : i < n) (ne : e ≠ it) (nf : e ∉ fp)
    (q : ∀ x h' k, P i x → IsEnumHeld h' e it ((i : Int) + 1) old T true → Sd (i + 1) h' → h'.get? st.heap.objs.size = some { cls := .type "tuple", data := .seq #[.int i k, x] } → h'.objs.size = st.heap.objs.size + 1 →
      (∀ b o, b ≠ e → b ≠ it → st.heap.get? b = some o → h'.get? b = some o) → Q (.ref st.heap.objs.size) { st with heap := h', toks := k + 1 }) :
    wpAny (model prog w) A (Builtin.«enumerate.__next__» ⟨[.ref e], []⟩) (fun fin s' => ∃ v, fin = .done (.ret v) ∧ Q v s') E st := by
  obtain ⟨hp, g, d, t0, os⟩ := st
  show wpAny _ _ (field (.ref e) 2 >>= _) _ _ _; refine wpAny_bind (wpAny_field ee rfl (x := .ref it) rfl ?_)
  refine wpAny_bind (D.item i _ _ _ lt ss fun x a1 k px s1 b1 => ?_)
  replace b1 : Heap.SameBut it hp a1 := b1
  have e1 : IsEnumHeld a1 e it i old T f := (b1.2 e ne).trans ee
  show wpAny _ _ (field (.ref e) 3 >>= _) _ _ ⟨a1, g, d, k, os⟩; refine wpAny_bind (wpAny_field e1 rfl (x := rawInt i) rfl ?_)
  show wpAny _ _ (field (.ref e) 4 >>= _) _ _ ⟨a1, g, d, k, os⟩; refine wpAny_bind (wpAny_field e1 rfl (x := .none) rfl ?_)
  show wpAny _ _ (mkInt i >>= _) _ _ ⟨a1, g, d, k, os⟩; refine wpAny_bind (wpAny_mkInt ?_)
  show wpAny _ _ (setField (.ref e) 3 (rawInt ((i : Int) + 1)) >>= _) _ _ ⟨a1, g, d, k + 1, os⟩; refine wpAny_bind (wpAny_setField_rec e1 (by simp) fun a2 e2 b2 => ?_)
  replace b2 : Heap.SameBut e a1 a2 := b2
  replace e2 : IsEnumHeld a2 e it ((i : Int) + 1) old T f := e2
  show wpAny _ _ (setField (.ref e) 4 .none >>= _) _ _ ⟨a2, g, d, k + 1, os⟩; refine wpAny_bind (wpAny_setField_rec e2 (by simp) fun a3 e3 b3 => ?_)
  replace b3 : Heap.SameBut e a2 a3 := b3
  replace e3 : IsEnumHeld a3 e it ((i : Int) + 1) old T f := e3
  show wpAny _ _ (newTuple [.int i k, x] >>= _) _ _ ⟨a3, g, d, k + 1, os⟩; refine wpAny_bind (wpAny_newTuple ?_)
  have e4 : IsEnumHeld (a3.push { cls := .type "tuple", data := .seq #[.int i k, x] }) e it ((i : Int) + 1) old T f := Heap.get?_push_of_some _ e3
  generalize ha : a3.push { cls := .type "tuple", data := .seq #[.int i k, x] } = a4 at e4
  have z3 : a3.objs.size = hp.objs.size := by rw [b3.1, b2.1, b1.1]
  have el : e < hp.objs.size := Heap.lt_size ee
  have t4 : a4.get? hp.objs.size = some { cls := .type "tuple", data := .seq #[.int i k, x] } := by rw [← ha, ← z3]; exact Heap.get?_push_size _ rfl
  have z4 : a4.objs.size = hp.objs.size + 1 := by rw [← ha, Heap.size_push, z3]
  have k4 : ∀ b o, b ≠ e → b ≠ it → hp.get? b = some o → a4.get? b = some o := fun b o be bi hb => by
    rw [← ha]; exact Heap.get?_push_of_some _ (b3.extBut b o be (b2.extBut b o be (b1.extBut b o bi hb)))
  have s4 : Sd (i + 1) a4 := D.frame _ _ _ s1 fun b hb o y => by
    have be : b ≠ e := fun z => nf (z ▸ hb)
    rw [← ha]; exact Heap.get?_push_of_some _ (b3.extBut b o be (b2.extBut b o be y))
  show wpAny _ _ (Builtin.SmallTypes.ownedTupleIsFree (.ref e) >>= _) _ _ ⟨a4, g, d, k + 1, os⟩
  rw [z3]
  refine wpAny_bind (wpAny_tupleHeld_enum (s := ⟨a4, g, d, k + 1, os⟩) e4 (k4 T oT te ti tt) fun a5 e5 b5 => ?_)
  replace b5 : Heap.SameBut e a4 a5 := b5
  simp only [Bool.false_eq_true, if_false]
  refine wpAny_pure ⟨_, rfl, q x a5 k px e5 (D.frame _ _ _ s4 fun b hb o y => b5.extBut b o (fun z => nf (z ▸ hb)) y) (b5.extBut _ _ (Nat.ne_of_gt el) t4) ?_ fun b o be bi hb => b5.extBut b o be (k4 b o be bi hb)⟩
  show a5.objs.size = hp.objs.size + 1
  rw [b5.1, z4]
theorem en_item {Q : Option Value → Shared → Prop} (D : Draws prog w A.in1 it fp n P Sd) (ee : EnSt st.heap e it i) (ss : Sd i st.heap) (lt : i < n) (ne : e ≠ it) (nf : e ∉ fp)
    (q : ∀ x h' k, P i x → EnSt h' e it (i + 1) → Sd (i + 1) h' → h'.get? st.heap.objs.size = some { cls := .type "tuple", data := .seq #[.int i k, x] } → h'.objs.size = st.heap.objs.size + 1 →
      (∀ b o, b ≠ e → b ≠ it → st.heap.get? b = some o → h'.get? b = some o) → Q (some (.ref st.heap.objs.size)) { st with heap := h', toks := k + 1 }) : wpAny (model prog w) A (pyNext (.ref e)) Q E st := by
  have ty := ee.ty
  have elt := ee.lt
  have ilt : it < st.heap.objs.size := by obtain ⟨_, y⟩ := D.live _ _ ss; exact Heap.lt_size y
  rcases ee with ⟨old, x⟩ | ⟨old, T, f, oT, x, y, z1, z2⟩
  · exact wpAny_pyNext_enum_itemD D x ss lt ne nf fun u h' k p ho s' t z kk => q u h' k p (.inr ⟨u, _, false, _, ho, t, Nat.ne_of_gt elt, Nat.ne_of_gt ilt⟩) s' t z kk
  · unfold pyNext
    refine wpAny_bind (wpAny_attempt (wpAny_callSpecial?_slot (name := Str.ofString "__next__") ty F.slot_enumerate_next (wpAny_call_entry F.slot_enumerate_next ty F.entry_enumerate_next (enx_held D x y z1 z2 ss lt ne nf fun u h' k p ho s' t z kk => wpAny_pure (q u h' k p ?_ s' t z kk)) (F.args_enumerate_next_1 _))))
    exact .inr ⟨old, T, true, oT, ho, kk T oT z1 z2 y, z1, z2⟩
theorem en_done {Q : Option Value → Shared → Prop} (D : Draws prog w A.in1 it fp n P Sd) (ee : EnSt st.heap e it i) (ss : Sd n st.heap) (q : ∀ h', Heap.ExtBut it st.heap h' → Q none { st with heap := h' }) : wpAny (model prog w) A (pyNext (.ref e)) Q E st := by
  have ty := ee.ty
  rcases ee with ⟨old, x⟩ | ⟨old, T, f, oT, x, y, z1, z2⟩
  · exact wpAny_pyNext_enum_endD D x ss q
  · unfold pyNext
    refine wpAny_bind (wpAny_attempt (wpAny_callSpecial?_slot (name := Str.ofString "__next__") ty F.slot_enumerate_next (wpAny_call_entry F.slot_enumerate_next ty F.entry_enumerate_next ?_ (F.args_enumerate_next_1 _))))
    show wpAny _ _ (field (.ref e) 2 >>= _) _ _ _; refine wpAny_bind (wpAny_field x rfl (x := .ref it) rfl ?_)
    refine wpAny_bind (D.done _ _ _ ss fun h' u hx ⟨o, ho, hc⟩ => ?_)
    exact wpAny_bind (wpAny_isInstance (T := "StopIteration") (b := true) ⟨o, ho, hc⟩ isSubtype_stop (wpAny_pure (q _ hx)))
end
theorem en_iter {prog : Program} {w : World} {A : Around} {E : Value → Shared → Prop} {st : Shared} {e it : Addr} {i : Nat} {Q : Value → Shared → Prop} (ee : EnSt st.heap e it i) (q : Q (.ref e) st) : wpAny (model prog w) A (pyIter (.ref e)) Q E st := by
  rcases ee with ⟨_, x⟩ | ⟨_, _, _, _, x, _⟩
  · exact wpAny_pyIter_enum x q
  · refine wpAny_pyIter_slot (s := st) ⟨_, x, rfl⟩ F.slot_enumerate_iter (wpAny_call_entry F.slot_enumerate_iter ⟨_, x, rfl⟩ F.entry_enumerate_iter ?_ (F.args_enumerate_iter_1 _))
    show wpAny _ _ (ret (.ref e)) _ _ _
    exact wpAny_pure ⟨_, rfl, "enumerate", _, ⟨_, x, rfl⟩, F.slot_enumerate_next.lookup, q⟩
/-- the pairs that were given out, one behind the other, all above N -/
structure Made (P : Nat → Value → Prop) (h : Heap) (N : Nat) (acc : Array Value) (Ts : List Addr) : Prop where
  acc : acc.toList = Ts.map Value.ref
  up : Ts.Pairwise (· < ·)
  bd : ∀ T ∈ Ts, N ≤ T ∧ T < h.objs.size
  ob : ∀ (j : Nat) T, Ts[j]? = some T → ∃ t x, h.get? T = some { cls := .type "tuple", data := .seq #[.int j t, x] } ∧ P j x
theorem Made.keep {P : Nat → Value → Prop} {h h' : Heap} {N : Nat} {acc : Array Value} {Ts : List Addr} (m : Made P h N acc Ts) (k : ∀ b o, N ≤ b → h.get? b = some o → h'.get? b = some o) : Made P h' N acc Ts :=
  ⟨m.acc, m.up, fun T hT => by
    obtain ⟨j, hj⟩ := List.mem_iff_getElem?.mp hT
    obtain ⟨t, x, h1, _⟩ := m.ob j T hj
    exact ⟨(m.bd T hT).1, Heap.lt_size (k T _ (m.bd T hT).1 h1)⟩, fun j T hT => by
    obtain ⟨t, x, h1, h2⟩ := m.ob j T hT
    exact ⟨t, x, k T _ (m.bd T (List.mem_of_getElem? hT)).1 h1, h2⟩⟩
theorem Made.snoc {P : Nat → Value → Prop} {h : Heap} {N : Nat} {acc : Array Value} {Ts : List Addr} {T : Addr} {t : Tok} {x : Value} (m : Made P h N acc Ts) (hN : N ≤ T) (hT : ∀ U ∈ Ts, U < T) (hl : T < h.objs.size) (ho : h.get? T = some { cls := .type "tuple", data := .seq #[.int Ts.length t, x] }) (hp : P Ts.length x) : Made P h N (acc.push (.ref T)) (Ts ++ [T]) := by
  refine ⟨by rw [Array.toList_push, m.acc, List.map_append]; rfl, List.pairwise_append.mpr ⟨m.up, List.pairwise_singleton _ _, fun a ha b hb => by
    rw [List.mem_singleton.mp hb]
    exact hT a ha⟩, fun U hU => ?_, fun j U hU => ?_⟩
  · rcases List.mem_append.mp hU with hU | hU
    · exact m.bd U hU
    · rw [List.mem_singleton.mp hU]
      exact ⟨hN, hl⟩
  · by_cases c : j < Ts.length
    · rw [List.getElem?_append_left c] at hU
      exact m.ob j U hU
    · have hj : j = Ts.length := by
        have := (List.getElem?_eq_some_iff.mp hU).1
        rw [List.length_append] at this
        simp at this
        omega
      subst hj
      rw [List.getElem?_append_right (Nat.le_refl _), Nat.sub_self] at hU
      cases hU
      exact ⟨t, x, ho, hp⟩
section
variable {prog : Program} {w : World} {A : Around} {E : Value → Shared → Prop} {st : Shared} {e it : Addr} {fp : List Addr} {n : Nat} {P : Nat → Value → Prop} {Sd : Nat → Heap → Prop}
theorem en_loop {R : Result → Shared → Prop} (D : Draws prog w A.in1.in1 it fp n P Sd) (ne : e ≠ it) (nf : e ∉ fp) (hn : n ≤ sizeLine) (S N : Addr) (hSe : S ≠ e) (hSi : S ≠ it) (hSf : S ∉ fp) (eN : e < N) (iN : it < N) (SN : S < N) (res : Value) :
    ∀ (k i : Nat) (st : Shared) (acc : Array Value) (c : Nat) (Ts : List Addr), n - i = k → i ≤ n → EnSt st.heap e it i → Sd i st.heap → st.heap.get? S = some { cls := .type "list", dict := none, data := .seq acc c, slots := #[] } → N ≤ st.heap.objs.size → Ts.length = i → Made P st.heap N acc Ts →
    (∀ h' tk acc' c' Ts', (∀ b o, b ≠ e → b ≠ it → b ≠ S → st.heap.get? b = some o → h'.get? b = some o) → h'.get? S = some { cls := .type "list", dict := none, data := .seq acc' c', slots := #[] } → Ts'.length = n → Made P h' N acc' Ts' → R (.ok (.ret res)) { st with heap := h', toks := tk }) →
    codeAny (model prog w) A (.builtin "list.extend.loop" ⟨[.ref S, .ref e, res], []⟩) R st := by
  intro k
  induction k with
  | zero =>
    intro i st acc c Ts hk hi ee ss hS hz hl hm hR
    have hin : i = n := by omega
    subst hin
    refine codeAny_builtin F.entry_extend_loop ?_
    rw [Around.under_plainId F.plain_extend_loop _]
    show wpAny _ A.in1 (pyNext (.ref e) >>= _) _ _ st
    refine wpAny_bind (en_done D ee ss fun h' hx => wpAny_pure ?_)
    exact hR h' st.toks acc c Ts (fun b o _ bi _ hb => hx b o bi hb) (hx S _ hSi hS) hl (hm.keep fun b o hb y => hx b o (Nat.ne_of_gt (Nat.lt_of_lt_of_le iN hb)) y)
  | succ k ih =>
    intro i st acc c Ts hk hi ee ss hS hz hl hm hR
    have hlt : i < n := by omega
    refine codeAny_builtin F.entry_extend_loop ?_
    rw [Around.under_plainId F.plain_extend_loop _]
    show wpAny _ A.in1 (pyNext (.ref e) >>= _) _ _ st
    refine wpAny_bind (en_item D ee ss hlt ne nf fun x h1 tk px e1 s1 t1 z1 k1 => ?_)
    have hS1 := k1 S _ hSe hSi hS
    show wpAny _ A.in1 (updateSeq S (·.push (.ref st.heap.objs.size)) >>= _) _ _ _
    refine wpAny_bind ?_
    have hsz : acc.size = i := by
      have := congrArg List.length hm.acc
      rw [Array.length_toList, List.length_map, hl] at this
      exact this
    have oth : ∀ b o, b ≠ S → h1.get? b = some o → (h1.update S (Obj.mapSeq (·.push (Value.ref st.heap.objs.size)))).get? b = some o := fun b o hb y => (Heap.get?_update_other _ _ (Ne.symm hb)).trans y
    have zu : (h1.update S (Obj.mapSeq (·.push (Value.ref st.heap.objs.size)))).objs.size = st.heap.objs.size + 1 := by rw [Heap.size_update, z1]
    have m1 : Made P h1 N acc Ts := hm.keep fun b o hb y => k1 b o (Nat.ne_of_gt (Nat.lt_of_lt_of_le eN hb)) (Nat.ne_of_gt (Nat.lt_of_lt_of_le iN hb)) y
    have m2 : Made P h1 N (acc.push (.ref st.heap.objs.size)) (Ts ++ [st.heap.objs.size]) := m1.snoc hz (fun U hU => (hm.bd U hU).2) (by rw [z1]; exact Nat.lt_succ_self _) (by rw [hl]; exact t1) (by rw [hl]; exact px)
    refine wpAny_updateSeq hS1 rfl (wpAny_pure ⟨plainId_quiet F.plain_extend_loop _, ih (i + 1) _ (acc.push (.ref st.heap.objs.size)) _ (Ts ++ [st.heap.objs.size]) (by omega) hlt ?_ ?_ (Heap.get?_update_self _ hS1 rfl) (by show N ≤ (h1.update S _).objs.size; rw [zu]; exact Nat.le_succ_of_le hz) (by rw [List.length_append, hl]; rfl) ?_ fun h' tk' acc' c' Ts' k2 hS2 hl2 hm2 => ?_⟩)
      (by rw [hsz]; omega) (by show (acc.push _).size ≤ sizeLine + 1; rw [Array.size_push, hsz]; omega)
    · exact e1.keep oth (Ne.symm hSe) fun T o _ hT => by
        subst hT
        exact ⟨_, Heap.get?_update_self _ hS1 rfl⟩
    · exact D.frame _ _ _ s1 fun b hb o y => oth b o (fun z => hSf (z ▸ hb)) y
    · exact m2.keep fun b o hb y => oth b o (Nat.ne_of_gt (Nat.lt_of_lt_of_le SN hb)) y
    · exact hR h' tk' acc' c' Ts' (fun b o be bi bS hb => k2 b o be bi bS (oth b o bS (k1 b o be bi hb))) hS2 hl2 hm2
theorem en_nolen : typeLookup (.type "enumerate") "__len__" = pure none := am_miss_of_fast (by decide +kernel)
theorem en_nohint : typeLookup (.type "enumerate") "__length_hint__" = pure none := am_miss_of_fast (by decide +kernel)
theorem collect_en {Q : List Value → Shared → Prop} (D : Draws prog w A.in1.in1 it fp n P Sd) (ne : e ≠ it) (nf : e ∉ fp) (ee : EnSt st.heap e it 0) (ss : Sd 0 st.heap) (bf : ∀ b ∈ fp, b < st.heap.objs.size) (hn : n ≤ sizeLine)
    (q : ∀ h' tk acc Ts, (∀ b o, b ≠ e → b ≠ it → st.heap.get? b = some o → h'.get? b = some o) → st.heap.objs.size < h'.objs.size → Ts.length = n → Made P h' (st.heap.objs.size + 1) acc Ts → Q acc.toList { st with heap := h', toks := tk }) : wpAny (model prog w) A (collect (.ref e)) Q E st := by
  have elt := ee.lt
  have ilt : it < st.heap.objs.size := by obtain ⟨_, y⟩ := D.live _ _ ss; exact Heap.lt_size y
  have sf : st.heap.objs.size ∉ fp := fun hm => Nat.lt_irrefl _ (bf _ hm)
  have se : st.heap.objs.size ≠ e := Nat.ne_of_gt elt
  have si : st.heap.objs.size ≠ it := Nat.ne_of_gt ilt
  unfold collect; refine wpAny_bind (wpAny_runValue (codeAny_builtin F.entry_proto_collect ?_))
  rw [Around.under_plainId F.plain_proto_collect _]
  show wpAny _ A.in1 (newList [] >>= fun l => again (.builtin "list.__iadd__" ⟨[l, .ref e], []⟩)) _ _ st
  refine wpAny_bind (wpAny_newObj_type (wpAny_pure ⟨plainId_quiet F.plain_list_iadd _, codeAny_builtin F.entry_list_iadd ?_⟩))
  rw [Around.under_plainId F.plain_list_iadd _]
  have push : ∀ b o, st.heap.get? b = some o → (st.heap.push { cls := .type "list", data := .seq ([] : List Value).toArray }).get? b = some o := fun b o y => Heap.get?_push_of_some _ y
  have ee1 : EnSt (st.heap.push { cls := .type "list", data := .seq ([] : List Value).toArray }) e it 0 := ee.keep (S := st.heap.objs.size) (fun b o _ y => push b o y) (Ne.symm se) fun T o y z => ⟨o, push T o y⟩
  show wpAny _ A.in1 (Builtin.List.listExtendWith (.ref st.heap.objs.size) (.ref e) (.ref st.heap.objs.size)) _ _ _
  unfold Builtin.List.listExtendWith; refine wpAny_bind (wpAny_typeOf (s := { st with heap := st.heap.push { cls := .type "list", data := .seq ([] : List Value).toArray } }) ee1.ty ?_)
  have h1 : Builtin.List.listSameRef (.ref st.heap.objs.size) (.ref e) = false := by simp [Builtin.List.listSameRef, se]
  have h2 : (Value.type "enumerate" == Value.type "list") = false := by decide
  have h3 : (Value.type "enumerate" == Value.type "tuple") = false := by decide
  simp only [h1, h2, h3, Bool.or_false, Bool.false_eq_true, if_false]
  refine wpAny_bind (en_iter ee1 ?_)
  refine wpAny_bind (wpAny_holding ?_)
  unfold Builtin.List.listLengthHint; refine wpAny_bind (wpAny_specialOf (s := { st with heap := st.heap.push { cls := .type "list", data := .seq ([] : List Value).toArray } }) ee1.ty en_nolen ?_)
  show wpAny _ A.in1 (specialOf (Value.ref e) (Str.ofString "__length_hint__") >>= _) _ _ _; refine wpAny_bind (wpAny_specialOf (s := { st with heap := st.heap.push { cls := .type "list", data := .seq ([] : List Value).toArray } }) ee1.ty en_nohint (wpAny_pure ?_))
  show wpAny _ A.in1 (rule "list.extend.makes-room" >>= fun _ => Builtin.List.listTouch (.ref st.heap.objs.size) >>= fun _ => again (.builtin "list.extend.loop" ⟨[.ref st.heap.objs.size, .ref e, .ref st.heap.objs.size], []⟩)) _ _ _
  refine wpAny_bind (wpAny_rule ?_)
  have s1 : (st.heap.push { cls := .type "list", data := .seq ([] : List Value).toArray }).get? st.heap.objs.size = some { cls := .type "list", data := .seq ([] : List Value).toArray } := Heap.get?_push_size _ rfl
  refine wpAny_bind ?_
  show wpAny _ A.in1 (updateSeq st.heap.objs.size (·.push .none) >>= fun _ => updateSeq st.heap.objs.size (·.pop)) _ _ _
  refine wpAny_bind (wpAny_updateSeq s1 rfl ?_)
  have s2 := Heap.get?_update_self (Obj.mapSeq (·.push Value.none)) s1 rfl
  refine wpAny_updateSeq s2 rfl ?_
  have s3 := Heap.get?_update_self (Obj.mapSeq (·.pop)) s2 rfl
  have oth : ∀ b o, b ≠ st.heap.objs.size → (st.heap.push { cls := .type "list", data := .seq ([] : List Value).toArray }).get? b = some o → (((st.heap.push { cls := .type "list", data := .seq ([] : List Value).toArray }).update st.heap.objs.size (Obj.mapSeq (·.push Value.none))).update st.heap.objs.size (Obj.mapSeq (·.pop))).get? b = some o :=
    fun b o hb y => (Heap.get?_update_other _ _ (Ne.symm hb)).trans ((Heap.get?_update_other _ _ (Ne.symm hb)).trans y)
  have zz : (((st.heap.push { cls := .type "list", data := .seq ([] : List Value).toArray }).update st.heap.objs.size (Obj.mapSeq (·.push Value.none))).update st.heap.objs.size (Obj.mapSeq (·.pop))).objs.size = st.heap.objs.size + 1 := by rw [Heap.size_update, Heap.size_update, Heap.size_push]
  refine wpAny_pure ⟨plainId_quiet F.plain_extend_loop _, en_loop D ne nf hn st.heap.objs.size (st.heap.objs.size + 1) se si sf (Nat.lt_succ_of_lt elt) (Nat.lt_succ_of_lt ilt) (Nat.lt_succ_self _) _ n 0 _ _ _ [] rfl (Nat.zero_le _)
    (ee1.keep oth (Ne.symm se) fun T o _ z => by
      subst z
      exact ⟨_, s3⟩) (D.frame _ _ _ ss fun b hb o y => oth b o (Nat.ne_of_lt (bf b hb)) (push b o y)) s3 (by show _ ≤ (Heap.update _ _ _).objs.size; rw [zz]; exact Nat.le_refl _) rfl ⟨rfl, .nil, fun T hT => (nomatch hT), fun j T hT => by simp at hT⟩ fun h' tk acc c Ts k hS hl hm => ?_⟩
  show wpAny _ A (load st.heap.objs.size >>= _) _ _ _
  refine wpAny_bind (wpAny_load hS (wpAny_pure (q h' tk acc Ts (fun b o be bi y => ?_) (Heap.lt_size hS) hl hm)))
  have hb : b ≠ st.heap.objs.size := Nat.ne_of_lt (Heap.lt_size y)
  exact k b o be bi hb (oth b o hb (push b o y))
theorem new_tup_en {Q : Value → Shared → Prop} (D : Draws prog w A.in1.in1.in1 it fp n P Sd) (ne : e ≠ it) (nf : e ∉ fp) (ee : EnSt st.heap e it 0) (ss : Sd 0 st.heap) (bf : ∀ b ∈ fp, b < st.heap.objs.size) (hn : n ≤ sizeLine)
    (q : ∀ h' tk acc Ts, (∀ b o, b ≠ e → b ≠ it → st.heap.get? b = some o → h'.get? b = some o) → st.heap.objs.size < h'.objs.size → Ts.length = n → Made P h' (st.heap.objs.size + 1) acc Ts → Q (.ref h'.objs.size) { st with heap := h'.push { cls := .type "tuple", data := .seq acc }, toks := tk }) :
    codeAny (model prog w) A (.call (.builtin "tuple.__new__") ⟨[.type "tuple", .ref e], []⟩) (wants Q E) st := by
  refine codeAny_of_tree ?_
  show wpAny _ A.in1 (do checkBuiltinCall "tuple.__new__" ⟨[.type "tuple", .ref e], []⟩; again (.builtin "tuple.__new__" ⟨[.type "tuple", .ref e], []⟩)) _ _ st
  refine wpAny_bind (wpAny_of_eq (F.newCall_tuple_1 _) (wpAny_pure ⟨plainId_quiet F.plain_tuple_new _, codeAny_builtin F.entry_tuple_new ?_⟩)); rw [Around.under_plainId F.plain_tuple_new _]
  have f1 := sub_tuple_self
  have f2 := init_tuple_lookup
  have f3 := madeHere_tuple
  have f4 := ee.ty
  wp_walk using wpAny_typeOf f4, collect_en (A := A.in1) D ne nf ee ss bf hn
  intro h' tk acc Ts hk hlt hl hm
  have e1 : acc.toList.toArray = acc := by simp
  have hz : acc.size ≤ sizeLine := by
    have := congrArg List.length hm.acc
    rw [Array.length_toList, List.length_map, hl] at this
    omega
  show wpAny _ _ (Builtin.Tuple.tupleExact acc.toList.toArray >>= fun v => ret v) _ _ _
  rw [e1]; unfold Builtin.Tuple.tupleExact; exact wpAny_bind (wpAny_newObj_type (wpAny_pure (q h' tk acc Ts hk hlt hl hm)) hz)
theorem call_tup_en {Q : Value → Shared → Prop} (D : Draws prog w A.in1.in1.in1.in1 it fp n P Sd) (ne : e ≠ it) (nf : e ∉ fp) (ee : EnSt st.heap e it 0) (ss : Sd 0 st.heap) (bf : ∀ b ∈ fp, b < st.heap.objs.size) (hn : n ≤ sizeLine)
    (q : ∀ h' tk acc Ts, (∀ b o, b ≠ e → b ≠ it → st.heap.get? b = some o → h'.get? b = some o) → st.heap.objs.size < h'.objs.size → Ts.length = n → Made P h' (st.heap.objs.size + 1) acc Ts → Q (.ref h'.objs.size) { st with heap := h'.push { cls := .type "tuple", data := .seq acc }, toks := tk }) :
    wpAny (model prog w) A (call (.type "tuple") [.ref e]) Q E st := by
  refine callType_codes (Q₁ := fun o s1 => s1.TypeIs o "tuple" ∧ Q o s1) F.called_tuple (F.typeCall_tuple_1 _) F.entry_object_init
    (new_tup_en (A := A.in1) D ne nf ee ss bf hn fun h' tk acc Ts k z l m => ⟨⟨_, Heap.get?_push_size _ rfl, rfl⟩, q h' tk acc Ts k z l m⟩) fun o s1 h1 => ?_
  exact ⟨h1.1, F.args_object_init_2 o _, object_init_meets F.called_tuple.init.lookup F.called_tuple.made (by decide) prog w A.in1 _ s1 ⟨h1.1, rfl, h1.2⟩⟩
end
/-! ### many tuples at once -/
def cutH (h : Heap) (n : Nat) : Heap := ⟨h.objs.extract 0 n, h.life⟩
theorem cutH_size {h : Heap} {n : Nat} (z : n ≤ h.objs.size) : (cutH h n).objs.size = n := by
  show (h.objs.extract 0 n).size = n
  rw [Array.size_extract]
  omega
theorem cutH_get {h : Heap} {n : Nat} {b : Addr} (z : n ≤ h.objs.size) (hb : b < n) : (cutH h n).get? b = h.get? b := by
  unfold Heap.get? cutH
  have e : (h.objs.extract 0 n)[b]? = h.objs[b]? := by
    rw [Array.getElem?_extract]
    rw [if_pos (Nat.lt_of_lt_of_eq (Nat.lt_min.mpr ⟨hb, Nat.lt_of_lt_of_le hb z⟩) (Nat.sub_zero _).symm), Nat.zero_add]
  show (match (h.objs.extract 0 n)[b]? with
    | some ⟨_, _, .freed, _⟩ => none
    | o => o) = _
  rw [e]
  rfl
/-- the pairs as they stand when all of them are laid -/
def putTs : Nat → List Addr → List V → Hp → Hp
  | i, T :: Ts, x :: xs, H => putTs (i + 1) Ts xs (upd H T (.tup [.int i, x]))
  | _, _, _, H => H
def FreshTs : Nat → List Addr → List V → Hp → Prop
  | i, T :: Ts, x :: xs, H => H T = none ∧ FreshTs (i + 1) Ts xs (upd H T (.tup [.int i, x]))
  | _, [], [], _ => True
  | _, _, _, _ => False
section
variable {X : Cx} {pins : List (Addr × Obj)} {σ : L2.St}
theorem lay_cut {s : Shared} {h' : Heap} {t' : Nat} : ∀ (Ts : List Addr) (xs : List V) (us : List Value) (i : Nat) (n : Nat) (H : Hp) (t0 : Nat), Inv X pins σ H { s with heap := cutH h' n, toks := t0 } → n ≤ h'.objs.size → Ts.Pairwise (· < ·) → (∀ T ∈ Ts, n ≤ T ∧ T < h'.objs.size) → Vals xs us → Ts.length = xs.length →
    (∀ (j : Nat) T, Ts[j]? = some T → ∃ t x, h'.get? T = some { cls := .type "tuple", data := .seq #[.int ((i + j : Nat) : Int) t, x] } ∧ us[j]? = some x) → FreshTs i Ts xs H ∧ Inv X pins σ (putTs i Ts xs H) { s with heap := h', toks := t' }
  | [], [], _, i, n, H, t0, I, hn, _, _, _, _, _ => ⟨True.intro, I.kept (t' := t') fun b o hb => by
    have lt : b < n := by
      have := Heap.lt_size hb
      rw [show (cutH h' n).objs.size = n from cutH_size hn] at this
      exact this
    rw [show ({ s with heap := cutH h' n, toks := t0 } : Shared).heap.get? b = h'.get? b from cutH_get hn lt] at hb
    exact hb⟩
  | [], _ :: _, _, _, _, _, _, _, _, _, _, _, hl, _ => by simp at hl
  | _ :: _, [], _, _, _, _, _, _, _, _, _, _, hl, _ => by simp at hl
  | T :: Ts, x :: xs, us, i, n, H, t0, I, hn, up, bd, rv, hl, ob => by
    cases rv with
    | cons r rv =>
      rename_i u us
      obtain ⟨hT1, hT2⟩ := bd T (List.mem_cons_self ..)
      obtain ⟨t, x', o1, o2⟩ := ob 0 T rfl
      have hx : u = x' := Option.some.inj o2
      subst hx
      have n2 : T + 1 ≤ h'.objs.size := hT2
      have hz : (cutH h' n).objs.size = n := cutH_size hn
      have fr : H T = none := I.hok.fresh (by rw [show ({ s with heap := cutH h' n, toks := t0 } : Shared).heap.objs.size = n from hz]; exact hT1)
      have hob : (cutH h' (T + 1)).get? T = some { cls := .type "tuple", data := .seq #[.int (i : Int) t, u] } := by
        rw [cutH_get n2 (Nat.lt_succ_self T)]
        exact o1
      have I2 : Inv X pins σ (upd H T (.tup [.int i, x])) { s with heap := cutH h' (T + 1), toks := t0 } := I.laid (t' := t0) (h' := cutH h' (T + 1)) (fun b o hb => by
        have lt : b < n := by
          have := Heap.lt_size hb
          rw [show ({ s with heap := cutH h' n, toks := t0 } : Shared).heap.objs.size = n from hz] at this
          exact this
        rw [show ({ s with heap := cutH h' n, toks := t0 } : Shared).heap.get? b = h'.get? b from cutH_get hn lt] at hb
        rw [cutH_get n2 (Nat.lt_succ_of_lt (Nat.lt_of_lt_of_le lt hT1))]
        exact hb) (by rw [show ({ s with heap := cutH h' n, toks := t0 } : Shared).heap.objs.size = n from hz]; exact hT1)
        (show ObjOk X.prog X.w _ _ _ (.tup [.int i, x]) from ⟨by rw [sizeLine_eq]; show 2 ≤ _; omega, [.int i t, u], .cons ⟨t, rfl⟩ (.cons r .nil), ⟨_, hob, rfl, 0, rfl⟩⟩)
      rw [List.pairwise_cons] at up
      obtain ⟨f1, f2⟩ := lay_cut Ts xs us (i + 1) (T + 1) _ t0 I2 n2 up.2 (fun U hU => ⟨up.1 U hU, (bd U (List.mem_cons_of_mem _ hU)).2⟩) rv (by simpa using hl) fun j U hU => by
        obtain ⟨t1, x1, a1, a2⟩ := ob (j + 1) U hU
        exact ⟨t1, x1, by rw [show i + 1 + j = i + (j + 1) by omega]; exact a1, a2⟩
      exact ⟨⟨fr, f1⟩, f2⟩
theorem lay_ts {s : Shared} {H : Hp} {h' : Heap} {t' : Nat} (I : Inv X pins σ H s) (k : ∀ b o, s.heap.get? b = some o → h'.get? b = some o) (hz : s.heap.objs.size ≤ h'.objs.size) {Ts : List Addr} {xs : List V} {us : List Value} (up : Ts.Pairwise (· < ·)) (bd : ∀ T ∈ Ts, s.heap.objs.size ≤ T ∧ T < h'.objs.size) (rv : Vals xs us) (hl : Ts.length = xs.length)
    (ob : ∀ (j : Nat) T, Ts[j]? = some T → ∃ t x, h'.get? T = some { cls := .type "tuple", data := .seq #[.int (j : Int) t, x] } ∧ us[j]? = some x) : FreshTs 0 Ts xs H ∧ Inv X pins σ (putTs 0 Ts xs H) { s with heap := h', toks := t' } := by
  refine lay_cut Ts xs us 0 s.heap.objs.size H s.toks (I.kept (t' := s.toks) fun b o hb => ?_) hz up bd rv hl fun j T hT => ?_
  · rw [cutH_get hz (Heap.lt_size hb)]
    exact k b o hb
  · obtain ⟨t, x, a, b⟩ := ob j T hT
    exact ⟨t, x, by rw [Nat.zero_add]; exact a, b⟩
theorem vals_rfs : ∀ Ts : List Addr, Vals (Ts.map V.ref) (Ts.map Value.ref)
  | [] => .nil
  | _ :: Ts => .cons rfl (vals_rfs Ts)
/-- tuple(enumerate(x)) of a tuple -/
def tTupEn (K : PySem.W.Frag) (ta : TE) : TE := fun σ H Q => ta σ H fun x H1 => ∃ a xs, x = .ref a ∧ SqT K H1 a xs ∧ xs.length ≤ 100000 ∧ ∀ Ts, Ts.length = xs.length → FreshTs 0 Ts xs H1 → ∀ q o, putTs 0 Ts xs H1 q = none → o.cls = .type "tuple" → o.dict = none → Q (.ref q) (upd (putTs 0 Ts xs H1) q (.frz o (.tup (Ts.map .ref))))
theorem pe_tupEn {a : Expr} {ta : TE} {p p2 pos pos2 : Pos} (hc : X.calm = true) (hg : Gl X "tuple") (hm : X.mg "tuple" = none) (hg2 : Gl X "enumerate") (hm2 : X.mg "enumerate" = none) (ha : PE X a ta)
    (na : starEach [.Call (.Name "enumerate" p2) [a] [] pos2] X.env = (false, eval (.Call (.Name "enumerate" p2) [a] [] pos2) X.env) :: starEach [] X.env := by rfl) (na2 : starEach [a] X.env = (false, eval a X.env) :: starEach [] X.env := by rfl) :
    PE X (.Call (.Name "tuple" p) [.Call (.Name "enumerate" p2) [a] [] pos2] [] pos) (tTupEn X.K ta) := by
  refine ⟨fun pins s σ H Q I h => ?_⟩
  refine Call_ (ld_blt I hg hm boot_tuple (PyProof.Rows.callWith_type1 (args_cons (Call_ (ld_blt I hg2 hm2 boot_enumerate (PyProof.Rows.callWith_type1 (one_arg ha I h (fun v s2 x H2 I2 r q => ?_) na2) na2))) na) na))
  obtain ⟨b, xs, rfl, hs, hz, q⟩ := q
  cases (show v = Value.ref b from r)
  obtain ⟨its, rv, pl, _⟩ := I2.tuple hs
  have hl : s2.heap.IsTuple b its.toArray := pl
  have hlt : b < s2.heap.objs.size := pl.lt
  refine Tb.enum_begins1 (begins_tuple b its.toArray) hl fun h1 he ho hk => args_nil ?_
  have nb : b ≠ s2.heap.objs.size := Nat.ne_of_lt hlt
  have z1 : s2.heap.objs.size + 1 < h1.objs.size := Heap.lt_size he
  have D := Draws.tuple (prog := X.prog) (w := X.w) (A := X.A.in1.in1.in1.in1) (by exact I2.ok.hd hc) s2.heap.objs.size b nb its.toArray
  have hlen := rv.length
  refine call_tup_en D (Nat.succ_ne_self _) (by simp [nb.symm, Nat.ne_of_gt (Nat.lt_succ_of_lt hlt)]) (.inl ⟨_, he⟩) ⟨⟨_, ho, rfl, rfl⟩, ?_⟩ (fun c hc => ?_) (by rw [List.size_toArray, ← hlen, sizeLine_eq]; omega) fun h2 tk acc Ts k2 z2 l2 m2 => ?_
  · obtain ⟨o, h3, h4, n, h5⟩ := pl
    exact ⟨o, hk _ _ h3, h4, n, h5⟩
  · rcases List.mem_cons.mp hc with rfl | hc
    · exact Heap.lt_size ho
    · rw [List.mem_singleton.mp hc]
      exact Nat.lt_of_lt_of_le hlt (Nat.le_of_lt (Nat.lt_of_succ_lt z1))
  · have keep : ∀ c o, s2.heap.get? c = some o → h2.get? c = some o := fun c o hb => k2 c o (Nat.ne_of_lt (Nat.lt_succ_of_lt (Heap.lt_size hb))) (Nat.ne_of_lt (Heap.lt_size hb)) (hk c o hb)
    have l3 : Ts.length = xs.length := by rw [l2, List.size_toArray, hlen]
    have zs : s2.heap.objs.size ≤ h2.objs.size := Nat.le_of_lt (Nat.lt_trans (Nat.lt_of_succ_lt z1) z2)
    obtain ⟨f1, I3⟩ := lay_ts (t' := tk) I2 keep zs m2.up (fun T hT => ⟨Nat.le_trans (Nat.le_of_lt (Nat.lt_of_succ_lt z1)) (Nat.le_trans (Nat.le_succ _) (m2.bd T hT).1), (m2.bd T hT).2⟩) rv l3 fun j T hT => by
      obtain ⟨t, x, a1, a2⟩ := m2.ob j T hT
      exact ⟨t, x, a1, by simpa using a2⟩
    have ea : acc = (Ts.map Value.ref).toArray := by rw [← m2.acc]
    subst ea
    have I4 : Inv X pins σ (upd (putTs 0 Ts xs H2) h2.objs.size (.frz { cls := .type "tuple", data := .seq (Ts.map Value.ref).toArray } (.tup (Ts.map .ref)))) { s2 with heap := h2.push { cls := .type "tuple", data := .seq (Ts.map Value.ref).toArray }, toks := tk } := I3.laid (t' := tk) (fun c o y => Heap.get?_push_of_some _ y) (Nat.le_refl _)
      (show ObjOk X.prog X.w _ _ _ (.frz _ (.tup (Ts.map .ref))) from ⟨Heap.get?_push_size _ rfl, by rw [List.length_map, l3]; exact Nat.le_trans hz (by rw [sizeLine_eq]; decide), Ts.map Value.ref, vals_rfs Ts, IsTup.new _ _⟩)
    exact ⟨.ref h2.objs.size, _, I4, rfl, q Ts l3 f1 _ _ (I3.hok.fresh (Nat.le_refl _)) rfl rfl⟩
end
end L2

namespace L2
open PySem PySem.Spec PyProof.Rows Evl
theorem pek_tupEn {X : Cx} {K : PySem.W.Frag} (hK : X.K = K) {a : Expr} {ta : TE} {p p2 pos pos2 : Pos} (hc : X.calm = true) (hg : Gl X "tuple") (hm : X.mg "tuple" = none) (hg2 : Gl X "enumerate") (hm2 : X.mg "enumerate" = none) (ha : PE X a ta)
    (na : starEach [.Call (.Name "enumerate" p2) [a] [] pos2] X.env = (false, eval (.Call (.Name "enumerate" p2) [a] [] pos2) X.env) :: starEach [] X.env := by rfl) (na2 : starEach [a] X.env = (false, eval a X.env) :: starEach [] X.env := by rfl) :
    PE X (.Call (.Name "tuple" p) [.Call (.Name "enumerate" p2) [a] [] pos2] [] pos) (tTupEn K ta) := hK ▸ pe_tupEn hc hg hm hg2 hm2 ha na na2
end L2
namespace Fd
open PySem PySem.Spec PyProof.Rows L2 Evl Tb
section
variable {K : PySem.W.Frag} {te : TE} {f : Dn PyData}
theorem gr_putTs : ∀ (Ts : List Addr) (xs : List V) (ds : List PyData) (i : Nat) (B H : Hp), Ex B H → FreshTs i Ts xs H → DqAll K B xs ds → Gr B H (putTs i Ts xs B) (putTs i Ts xs H) ∧ DqAll K (putTs i Ts xs B) (Ts.map V.ref) (enD (i : Int) ds)
  | [], [], _, i, B, H, x, _, .nil => ⟨.refl x, .nil⟩
  | [], _ :: _, _, _, _, _, _, h, _ => h.elim
  | _ :: _, [], _, _, _, _, _, h, _ => h.elim
  | T :: Ts, v :: xs, d :: ds, i, B, H, x, h, .cons hv hs => by
    have g : Gr B H (upd B T (.tup [.int i, v])) (upd H T (.tup [.int i, v])) := Gr.new x h.1
    obtain ⟨g2, h2⟩ := gr_putTs Ts xs ds (i + 1) _ _ g.g2 h.2 (dpa_mono g.hg hs)
    refine ⟨g.trans g2, ?_⟩
    show DqAll K _ (V.ref T :: Ts.map V.ref) (.tuple [.int (i : Int), d] :: enD ((i : Int) + 1) ds)
    exact .cons (dp_mono g2.hg (.tupN (st_of upd_same) (.cons (.int _) (.cons (dp_mono g.hg hv) .nil)) rfl)) h2
/-- tuple(enumerate(x)) -/
def dEnT (f : Dn PyData) : Dn PyData := dBind f fun x => match x with
  | .tuple ds => if fewer ds = true then dK (.tuple (enD 0 ds)) else fun _ => none
  | _ => fun _ => none
theorem se_tupEn (h : SE K te f) : SE K (tTupEn K te) (dEnT f) := fun W hW σ e B H a d e' h' Q q => by
  obtain ⟨x, e1, h1, h2⟩ := dBind_some h'
  split at h2
  · rename_i ds
    split at h2
    · rename_i hf
      obtain ⟨rfl, rfl⟩ := dK_some h2
      refine h W hW σ e B H a _ e' h1 _ fun v B1 H1 a1 g1 d1 => ?_
      obtain ⟨p, xs, rfl, k1, k2⟩ := d1.tup_of
      have hl := DqAll.length k2
      have hf := of_decide_eq_true hf
      refine ⟨p, xs, rfl, ex_t a1.ex k1, by omega, fun Ts hT fr r o hr hoc hod => ?_⟩
      obtain ⟨g2, d2⟩ := gr_putTs Ts xs ds 0 B1 H1 a1.ex fr k2
      have g3 : Gr (putTs 0 Ts xs B1) (putTs 0 Ts xs H1) (upd (putTs 0 Ts xs B1) r (.frz o (.tup (Ts.map .ref)))) (upd (putTs 0 Ts xs H1) r (.frz o (.tup (Ts.map .ref)))) := Gr.new g2.g2 hr
      exact q _ _ _ ((a1.gr g2).gr g3) ((g1.trans (gx_gr g2)).trans (gx_gr g3)) (.tupZ hoc hod upd_same (dpa_mono g3.hg d2))
    · cases h2
  · cases h2
@[simp] theorem dEnT_e {e : En} : dEnT f e = dBind f (fun x => match x with
  | .tuple ds => if fewer ds = true then dK (.tuple (enD 0 ds)) else fun _ => none
  | _ => fun _ => none) e := rfl
end
end Fd
end

section
set_option Elab.async false
set_option linter.all false
set_option maxRecDepth 100000
set_option maxHeartbeats 1000000
/-! Base h: the keys of a known dict, one by one (flat tuples). -/
variable [Fd.Uw]
namespace L2
open PySem PySem.Spec PyProof.Rows Evl
/-- the keys of the dict at d, whose entries are es -/
def Ikq (d : Addr) (es : Array DictEntry) (ep : Nat) : It :=
  ⟨fun i H => H d = some (DicO d es ep) ∧ i < es.size ∧ ∀ (j : Nat) (h : j < es.size), ∃ b, es[j].key = .ref b, fun i H v H' => H' = H ∧ ∃ (hi : i < es.size) (b : Addr), es[i].key = .ref b ∧ v = .ref b, fun i H => H d = some (DicO d es ep) ∧ es.size ≤ i⟩
theorem turn_kq {P : Program} {w : World} {K : PySem.W.Frag} {tg : Expr} {d : Addr} {es : Array DictEntry} {ep : Nat} (it : Addr) : Turn P w K tg (Ikq d es ep) [it] it (fun i h => h.IsKeyIter it d i es.size ep) where
  mem := by simp
  obj := fun i h z b hb => by
    have eb : b = it := by simpa using hb
    subst eb
    obtain ⟨oi, e1, _, e3⟩ := z
    exact ⟨oi, e1, fun v y => by rw [e3] at y; cases y⟩
  keep := fun i h h' z k => z.at fun oi y => k it (by simp) oi y
  item := by
    intro X hP hw hK hc i pins s σ H E I hf z hg
    subst hP hw hK
    obtain ⟨hd, hi, hr⟩ := hg
    obtain ⟨f0, f1, f2, f3, f4, f5⟩ := hf it (by simp)
    have raw := (show ObjOk X.prog X.w H s.heap d (DicO d es ep) from I.hok d _ hd).1
    obtain ⟨b, hb⟩ := hr i hi
    refine wpAny_pyNext_keys_item_raw z raw hi fun h' z' sb => ?_
    have I1 : Inv X pins σ H { s with heap := h' } := I.turned (t' := s.toks) (fun c o hc y => (sb.2 c hc).trans y) f0 f1 f3 f4 f5
    obtain ⟨oi, e1, e2, e3⟩ := id z'
    exact ⟨_, rfl, go_of (s := { s with heap := h' }) e1 e2 e3 (by decide) ⟨.ref b, H, I1, by rw [hb]; rfl, ⟨rfl, hi, b, hb, rfl⟩, z', fun c hc => (hf c hc).1⟩⟩
  done := by
    intro X hP hw hK hc i pins s σ H E I hf z hg
    subst hP hw hK
    obtain ⟨hd, hi⟩ := hg
    obtain ⟨f0, f1, f2, f3, f4, f5⟩ := hf it (by simp)
    have raw := (show ObjOk X.prog X.w H s.heap d (DicO d es ep) from I.hok d _ hd).1
    exact wpAny_pyNext_keys_end_raw (I.ok.hd hc) z raw hi fun h' eb => ⟨rfl, I.turned (t' := s.toks) (fun c o hc y => eb c o hc y) f0 f1 f3 f4 f5⟩
  self := fun A i s Q E z h => wpAny_pyIter_keyiter z h
def iKq (td : TE) : TI := fun σ H R => td σ H fun x H1 => ∃ d es ep, x = .ref d ∧ (d == sysModules) = false ∧ H1 d = some (DicO d es ep) ∧ (Program → World → R (Ikq d es ep) H1)
theorem pi_kq {X : Cx} {tg e : Expr} {td : TE} (he : PE X e td) : PI X tg e (iKq td) := by
  refine ⟨fun pins s σ H R I h => thn (he.run pins s σ H _ I h) fun u s1 ⟨x, H1, I1, rx, d, es, ep, ex, hm, hd, q⟩ => ?_⟩
  subst ex
  cases (show u = Value.ref d from rx)
  have raw := (show ObjOk X.prog X.w H1 s1.heap d (DicO d es ep) from I1.hok d _ hd).1
  exact wpAny_pyIter_dict_raw hm raw ⟨_, [s1.heap.objs.size], _, _, H1, rfl, I1.kept (t' := s1.toks) (fun _ _ z => Heap.get?_push_of_some _ z), turn_kq s1.heap.objs.size, ⟨_, Heap.get?_push_size _ rfl, rfl, rfl⟩, fun b hb => by
    rw [List.mem_singleton.mp hb]
    exact I1.fpOk (Nat.le_refl _) (I1.hok.fresh (Nat.le_refl _)), q X.prog X.w⟩
/-- what stands at a known dict with tuple keys -/
theorem TupEs.at_key {K : PySem.W.Frag} {H : Hp} {es : Array DictEntry} {kvs : List (NestedKey × V)} (P : Program) (w : World) (h : TupEs K H es kvs) : es.size = kvs.length ∧ ∀ (i : Nat) (hi : i < es.size), ∃ b x, es[i].key = .ref b ∧ kvs[i]? = some x ∧ KeyT K H b x.1 ∧ RelV x.2 es[i].val := by
  obtain ⟨ys, h1, h2, h3⟩ := h
  have e := h1 P w
  have hl : es.size = ys.length := by
    have := congrArg List.length e
    simpa using this
  refine ⟨hl.trans (Paired.length h3), fun i hi => ?_⟩
  have hy := List.getElem?_eq_getElem (l := ys) (i := i) (by omega)
  have e2 : es.toList[i]? = some (entryOfKey (nestedKind P w) ys[i]) := by rw [e, List.getElem?_map, hy]; rfl
  have e3 : es[i] = entryOfKey (nestedKind P w) ys[i] := by
    rw [Array.getElem?_toList, Array.getElem?_eq_getElem hi] at e2
    exact Option.some.inj e2
  have pg : ∀ {ys : List (NestedKey × Addr × Value)} {kvs : List (NestedKey × V)}, Paired (fun (y : NestedKey × Addr × Value) (x : NestedKey × V) => x.1 = y.1 ∧ KeyT K H y.2.1 y.1 ∧ RelV x.2 y.2.2) ys kvs → ∀ (i : Nat) y, ys[i]? = some y → ∃ x, kvs[i]? = some x ∧ x.1 = y.1 ∧ KeyT K H y.2.1 y.1 ∧ RelV x.2 y.2.2 := by
    intro ys kvs p
    induction p with
    | nil => intro i y h; simp at h
    | cons q _ ih =>
      intro i y h
      cases i with
      | zero => cases h; exact ⟨_, rfl, q⟩
      | succ i => exact ih i y h
  obtain ⟨x, hx, a1, a2, a3⟩ := pg h3 i _ hy
  exact ⟨ys[i].2.1, x, by rw [e3]; rfl, hx, by rw [a1]; exact a2, by rw [e3]; exact a3⟩
end L2
namespace Fd
open PySem PySem.Spec PyProof.Rows L2 Evl Tb
/-- a tuple of leaves is known by its key -/
theorem leaf_dq {K : PySem.W.Frag} {H : Hp} {v : V} {d : PyData} {k : NestedKey} (h1 : leafK v = some k) (h2 : leafD d = some k) : Dq K H v d := by
  unfold leafK at h1
  split at h1
  · cases h1
    unfold leafD at h2
    split at h2 <;> first | (cases h2; exact .non) | cases h2
  · cases h1
    unfold leafD at h2
    split at h2 <;> first | (cases h2; exact .int _) | cases h2
  · cases h1
    unfold leafD at h2
    split at h2 <;> first | (cases h2; exact .str _) | cases h2
  · cases h1
theorem leafs_dq {K : PySem.W.Frag} {H : Hp} : ∀ {vs : List V} {ds : List PyData} {ks : List NestedKey}, leafKs vs = some ks → leafDs ds = some ks → DqAll K H vs ds
  | [], ds, ks, h1, h2 => by
    cases h1
    cases ds with
    | nil => exact .nil
    | cons d ds =>
      unfold leafDs at h2
      split at h2 <;> cases h2
  | v :: vs, ds, ks, h1, h2 => by
    unfold leafKs at h1
    split at h1
    · rename_i k ks' e1 e2
      cases h1
      cases ds with
      | nil => cases h2
      | cons d ds =>
        unfold leafDs at h2
        split at h2
        · rename_i k2 ks2 e3 e4
          cases h2
          exact .cons (leaf_dq e1 e3) (leafs_dq e2 e4)
        · cases h2
    · cases h1
theorem leaf_tow {ds : List PyData} {ks : List NestedKey} (h : leafDs ds = some ks) (hne : ds ≠ []) : towerish ds = false := by
  cases ds with
  | nil => exact absurd rfl hne
  | cons d ds =>
    unfold leafDs at h
    split at h
    · rename_i k ks e1 e2
      have : pairI d = false := by
        unfold leafD at e1
        split at e1 <;> first | (cases e1; done) | rfl
      show (pairI d && ds.all pairI) = false
      rw [this]
      rfl
    · cases h
theorem keyT_dq {K : PySem.W.Frag} {H : Hp} {b : Addr} {k : NestedKey} {d : PyData} (h : KeyT K H b k) (hd : keyD d = some k) (hne : isEmpT d = false) : Dq K H (.ref b) d := by
  obtain ⟨vs, ks, hs, e, rfl⟩ := h
  unfold keyD at hd
  split at hd
  · obtain ⟨ks', h1, h2⟩ := Option.map_eq_some_iff.mp hd
    cases h2
    exact .tupN hs (leafs_dq e h1) (leaf_tow h1 (fun z => by subst z; cases hne))
  · exfalso
    unfold leafD at hd
    split at hd <;> cases hd
/-- the keys of a dict, all of them flat tuples -/
def keysT (ds : List (PyData × PyData)) : Option (List PyData) := if (ds.all fun d => tupKey d.1) = true then some (ds.map (·.1)) else none
def dKeysQ (f : Dn PyData) : Dn (List PyData) := dBind f fun x => match x with
  | .dict ds => dLift (keysT ds)
  | _ => fun _ => none
section
variable {K : PySem.W.Frag} {te : TE} {f : Dn PyData}
theorem dic_tupO {B : Hp} {v : V} {ds : List (PyData × PyData)} (h : Dq K B v (.dict ds)) (ht : (ds.all fun d => tupKey d.1) = true) : ∃ (a : Addr) (es : Array DictEntry) (ep : Nat) (kvs : List (NestedKey × V)), v = .ref a ∧ (a == sysModules) = false ∧ B a = some (DicO a es ep) ∧ es.size ≤ sizeLine ∧ TupEs K B es kvs ∧ (ds.map fun d => keyD d.1) = (kvs.map fun x => some x.1) ∧ DqAll K B (kvs.map (·.2)) (ds.map (·.2)) := by
  cases h with
  | dic h1 h2 h3 =>
    rename_i a kvs
    rcases h1 with ⟨h0, es, ep, k1, k2, k3⟩ | ⟨ks, hne, k1, rfl⟩
    · exact ⟨a, es, ep, kvs, rfl, h0, k1, k2, k3, h2, h3⟩
    · exfalso
      cases ks with
      | nil => exact hne rfl
      | cons x xs =>
        cases ds with
        | nil => simp at h2
        | cons d ds =>
          rw [List.map_cons, List.map_cons, List.map_cons] at h2
          have e1 := (List.cons.inj h2).1
          have e2 := tupKey_0 (List.all_eq_true.mp ht _ (List.mem_cons_self ..))
          unfold tupKey0 at e2
          rw [e1] at e2
          obtain ⟨xk, xv⟩ := x
          cases xk <;> cases e2
theorem si_keysQ (h : SE K te f) : SI K (iKq te) (dKeysQ f) := fun W hW σ e B H a ds e' h' R q => by
  obtain ⟨d, e1, h1, h2⟩ := dBind_some h'
  split at h2
  case h_2 => cases h2
  rename_i kds
  obtain ⟨h3, rfl⟩ := dLift_some h2
  unfold keysT at h3
  split at h3
  case isFalse => cases h3
  rename_i hT
  cases h3
  refine h W hW σ e B H a _ e' h1 _ fun v B1 H1 a1 g1 d1 => ?_
  obtain ⟨p, es, ep, kvs, rfl, hm, hb, hz, ht, hk, hv⟩ := dic_tupO d1 hT
  have hl : kds.length = kvs.length := by
    have := congrArg List.length hk
    rw [List.length_map, List.length_map] at this
    exact this
  refine ⟨p, es, ep, rfl, hm, a1.ex _ _ hb, fun P w => q _ B1 H1 a1 g1 ?_⟩
  obtain ⟨sz, at_⟩ := TupEs.at_key P w ht
  refine ⟨fun i B2 H2 x y hi => ⟨y _ _ (x _ _ hb), by rw [List.length_map] at hi; omega, fun j hj => ?_⟩, fun B2 H2 x y => ⟨y _ _ (x _ _ hb), by rw [List.length_map]; omega⟩, fun i d B2 H2 v H3 x y hd hy => ?_⟩
  · obtain ⟨b, _, h4, _⟩ := at_ j hj
    exact ⟨b, h4⟩
  · obtain ⟨rfl, hi, b, h4, rfl⟩ := hy
    obtain ⟨b', z, h5, h6, h7, _⟩ := at_ i hi
    rw [h4] at h5
    cases h5
    have hi' : i < kds.length := by omega
    have hem := tupKey_ne (List.all_eq_true.mp hT _ (List.getElem_mem hi'))
    refine ⟨B2, .refl y, keyT_dq (h7.mono x) ?_ (by
      simp only [List.getElem?_map, List.getElem?_eq_getElem hi', Option.map_some] at hd
      cases hd
      exact hem)⟩
    have e2 := congrArg (·[i]?) hk
    simp only [List.getElem?_map] at e2 hd
    rw [h6] at e2
    obtain ⟨kd, e3, rfl⟩ := Option.map_eq_some_iff.mp hd
    rw [e3] at e2
    exact Option.some.inj e2
end
end Fd
end

section
set_option Elab.async false
set_option linter.all false
set_option maxRecDepth 100000
set_option maxHeartbeats 1000000
/-! Base h: list(d.items()) of a known dict. -/
variable [Fd.Uw]
namespace L2
open PySem PySem.Spec PyProof.Rows Evl
open PySem.W (KdxIt)
/-- an iterator over the pairs of the dict at d, that gives pair i next -/
def ItSt (h : Heap) (I d : Addr) (es : Array DictEntry) (ep i : Nat) : Prop := h.DictRaw d es ep ∧ ((∃ ok ov, IsItemIter h I d i es.size ep ok ov) ∨ ∃ ok ov a f oa, KdxIt h I d i es.size ep ok ov a f ∧ h.get? a = some oa ∧ a ≠ I)
theorem ItSt.keep {h h' : Heap} {I d S : Addr} {es : Array DictEntry} {ep i : Nat} (x : ItSt h I d es ep i) (k : ∀ b o, b ≠ S → h.get? b = some o → h'.get? b = some o) (hI : I ≠ S) (hd : d ≠ S) (hS : ∃ o, h'.get? S = some o) : ItSt h' I d es ep i := by
  obtain ⟨r, x⟩ := x
  refine ⟨r.at fun o y => k d o hd y, ?_⟩
  rcases x with ⟨a, b, x⟩ | ⟨ok, ov, a, f, oa, x, y, z⟩
  · exact .inl ⟨a, b, k I _ hI x⟩
  · by_cases c : a = S
    · subst c
      obtain ⟨o, ho⟩ := hS
      exact .inr ⟨ok, ov, a, f, o, k I _ hI x, ho, z⟩
    · exact .inr ⟨ok, ov, a, f, oa, k I _ hI x, k a _ c y, z⟩
section
variable {prog : Program} {w : World} {A : Around} {E : Value → Shared → Prop} {st : Shared} {I d : Addr} {es : Array DictEntry} {ep i : Nat}
theorem it_item {Q : Option Value → Shared → Prop} (ss : ItSt st.heap I d es ep i) (hd : d ≠ I) (lt : i < es.size)
    (q : ∀ h', ItSt h' I d es ep (i + 1) → h'.get? st.heap.objs.size = some { cls := .type "tuple", data := .seq #[es[i].key, es[i].val] } → h'.objs.size = st.heap.objs.size + 1 → (∀ b o, b ≠ I → st.heap.get? b = some o → h'.get? b = some o) → Q (some (.ref st.heap.objs.size)) { st with heap := h' }) : wpAny (model prog w) A (pyNext (.ref I)) Q E st := by
  obtain ⟨r, x⟩ := ss
  rcases x with ⟨a, b, x⟩ | ⟨ok, ov, a, f, oa, x, y, z⟩
  · exact wpAny_pyNext_items_item_raw x r lt fun h' x' t zz k => q h' ⟨r.at fun o y => k d o hd y, .inr ⟨_, _, st.heap.objs.size, false, _, x', t, Nat.ne_of_gt (Heap.lt_size x)⟩⟩ t zz k
  · exact wpAny_pyNext_items_item_out_raw x y z r lt fun h' x' t zz k => q h' ⟨r.at fun o y => k d o hd y, .inr ⟨_, _, a, true, oa, x', k a oa z y, z⟩⟩ t zz k
theorem it_done {Q : Option Value → Shared → Prop} (hh : A.handled = none) (ss : ItSt st.heap I d es ep es.size) (q : ∀ h', Heap.ExtBut I st.heap h' → Q none { st with heap := h' }) : wpAny (model prog w) A (pyNext (.ref I)) Q E st := by
  obtain ⟨r, x⟩ := ss
  rcases x with ⟨a, b, x⟩ | ⟨ok, ov, a, f, oa, x, y, z⟩
  · exact wpAny_pyNext_items_end_raw hh x r (Nat.le_refl _) q
  · exact wpAny_pyNext_items_end_out_raw hh x r (Nat.le_refl _) q
end
/-- the pairs that were given out -/
structure MadeI (es : Array DictEntry) (h : Heap) (N : Nat) (acc : Array Value) (Ts : List Addr) : Prop where
  acc : acc.toList = Ts.map Value.ref
  up : Ts.Pairwise (· < ·)
  bd : ∀ T ∈ Ts, N ≤ T ∧ T < h.objs.size
  ob : ∀ (j : Nat) T, Ts[j]? = some T → ∃ hj : j < es.size, h.get? T = some { cls := .type "tuple", data := .seq #[es[j].key, es[j].val] }
theorem MadeI.keep {es : Array DictEntry} {h h' : Heap} {N : Nat} {acc : Array Value} {Ts : List Addr} (m : MadeI es h N acc Ts) (k : ∀ b o, N ≤ b → h.get? b = some o → h'.get? b = some o) : MadeI es h' N acc Ts :=
  ⟨m.acc, m.up, fun T hT => by
    obtain ⟨j, hj⟩ := List.mem_iff_getElem?.mp hT
    obtain ⟨_, h1⟩ := m.ob j T hj
    exact ⟨(m.bd T hT).1, Heap.lt_size (k T _ (m.bd T hT).1 h1)⟩, fun j T hT => by
    obtain ⟨hj, h1⟩ := m.ob j T hT
    exact ⟨hj, k T _ (m.bd T (List.mem_of_getElem? hT)).1 h1⟩⟩
theorem MadeI.snoc {es : Array DictEntry} {h : Heap} {N : Nat} {acc : Array Value} {Ts : List Addr} {T : Addr} (m : MadeI es h N acc Ts) (hN : N ≤ T) (hT : ∀ U ∈ Ts, U < T) (hl : T < h.objs.size) (hj : Ts.length < es.size) (ho : h.get? T = some { cls := .type "tuple", data := .seq #[es[Ts.length].key, es[Ts.length].val] }) : MadeI es h N (acc.push (.ref T)) (Ts ++ [T]) := by
  refine ⟨by rw [Array.toList_push, m.acc, List.map_append]; rfl, List.pairwise_append.mpr ⟨m.up, List.pairwise_singleton _ _, fun a ha b hb => by
    rw [List.mem_singleton.mp hb]
    exact hT a ha⟩, fun U hU => ?_, fun j U hU => ?_⟩
  · rcases List.mem_append.mp hU with hU | hU
    · exact m.bd U hU
    · rw [List.mem_singleton.mp hU]
      exact ⟨hN, hl⟩
  · by_cases c : j < Ts.length
    · rw [List.getElem?_append_left c] at hU
      exact m.ob j U hU
    · have hj2 : j = Ts.length := by
        have := (List.getElem?_eq_some_iff.mp hU).1
        rw [List.length_append] at this
        simp at this
        omega
      subst hj2
      rw [List.getElem?_append_right (Nat.le_refl _), Nat.sub_self] at hU
      cases hU
      exact ⟨hj, ho⟩
section
variable {prog : Program} {w : World} {A : Around} {E : Value → Shared → Prop} {st : Shared} {I d r : Addr} {es : Array DictEntry} {ep : Nat}
theorem it_loop {R : Result → Shared → Prop} (hh : A.handled = none) (hdI : d ≠ I) (hn : es.size ≤ sizeLine) (S N : Addr) (hSI : S ≠ I) (hSd : d ≠ S) (IN : I < N) (SN : S < N) (res : Value) :
    ∀ (k i : Nat) (st : Shared) (acc : Array Value) (c : Nat) (Ts : List Addr), es.size - i = k → i ≤ es.size → ItSt st.heap I d es ep i → st.heap.get? S = some { cls := .type "list", dict := none, data := .seq acc c, slots := #[] } → N ≤ st.heap.objs.size → Ts.length = i → MadeI es st.heap N acc Ts →
    (∀ h' tk acc' c' Ts', (∀ b o, b ≠ I → b ≠ S → st.heap.get? b = some o → h'.get? b = some o) → h'.get? S = some { cls := .type "list", dict := none, data := .seq acc' c', slots := #[] } → Ts'.length = es.size → MadeI es h' N acc' Ts' → R (.ok (.ret res)) { st with heap := h', toks := tk }) →
    codeAny (model prog w) A (.builtin "list.extend.loop" ⟨[.ref S, .ref I, res], []⟩) R st := by
  intro k
  induction k with
  | zero =>
    intro i st acc c Ts hk hi ss hS hz hl hm hR
    have hin : i = es.size := by omega
    subst hin
    refine codeAny_builtin F.entry_extend_loop ?_
    rw [Around.under_plainId F.plain_extend_loop _]
    show wpAny _ A.in1 (pyNext (.ref I) >>= _) _ _ st
    refine wpAny_bind (it_done hh ss fun h' hx => wpAny_pure ?_)
    exact hR h' st.toks acc c Ts (fun b o bi _ hb => hx b o bi hb) (hx S _ hSI hS) hl (hm.keep fun b o hb y => hx b o (Nat.ne_of_gt (Nat.lt_of_lt_of_le IN hb)) y)
  | succ k ih =>
    intro i st acc c Ts hk hi ss hS hz hl hm hR
    have hlt : i < es.size := by omega
    refine codeAny_builtin F.entry_extend_loop ?_
    rw [Around.under_plainId F.plain_extend_loop _]
    show wpAny _ A.in1 (pyNext (.ref I) >>= _) _ _ st
    refine wpAny_bind (it_item ss hdI hlt fun h1 s1 t1 z1 k1 => ?_)
    have hS1 := k1 S _ hSI hS
    show wpAny _ A.in1 (updateSeq S (·.push (.ref st.heap.objs.size)) >>= _) _ _ _
    refine wpAny_bind ?_
    have hsz : acc.size = i := by
      have := congrArg List.length hm.acc
      rw [Array.length_toList, List.length_map, hl] at this
      exact this
    have oth : ∀ b o, b ≠ S → h1.get? b = some o → (h1.update S (Obj.mapSeq (·.push (Value.ref st.heap.objs.size)))).get? b = some o := fun b o hb y => (Heap.get?_update_other _ _ (Ne.symm hb)).trans y
    have zu : (h1.update S (Obj.mapSeq (·.push (Value.ref st.heap.objs.size)))).objs.size = st.heap.objs.size + 1 := by rw [Heap.size_update, z1]
    have m1 : MadeI es h1 N acc Ts := hm.keep fun b o hb y => k1 b o (Nat.ne_of_gt (Nat.lt_of_lt_of_le IN hb)) y
    subst hl
    have m2 : MadeI es h1 N (acc.push (.ref st.heap.objs.size)) (Ts ++ [st.heap.objs.size]) := m1.snoc hz (fun U hU => (hm.bd U hU).2) (by rw [z1]; exact Nat.lt_succ_self _) hlt t1
    refine wpAny_updateSeq hS1 rfl (wpAny_pure ⟨plainId_quiet F.plain_extend_loop _, ih (Ts.length + 1) _ (acc.push (.ref st.heap.objs.size)) _ (Ts ++ [st.heap.objs.size]) (by omega) hlt ?_ (Heap.get?_update_self _ hS1 rfl) (by show N ≤ (h1.update S _).objs.size; rw [zu]; exact Nat.le_succ_of_le hz) (by rw [List.length_append]; rfl) ?_ fun h' tk' acc' c' Ts' k2 hS2 hl2 hm2 => ?_⟩)
      (by rw [hsz]; omega) (by show (acc.push _).size ≤ sizeLine + 1; rw [Array.size_push, hsz]; omega)
    · exact s1.keep oth (Ne.symm hSI) hSd ⟨_, Heap.get?_update_self _ hS1 rfl⟩
    · exact m2.keep fun b o hb y => oth b o (Nat.ne_of_gt (Nat.lt_of_lt_of_le SN hb)) y
    · exact hR h' tk' acc' c' Ts' (fun b o bi bS hb => k2 b o bi bS (oth b o bS (k1 b o bi hb))) hS2 hl2 hm2
theorem it_extend {R : Result → Shared → Prop} (hh : A.handled = none) (hv : st.heap.IsItemsView r d) (hr : st.heap.DictRaw d es ep) (S : Addr) (hSr : S ≠ r) (hSd : d ≠ S) (res : Value) (c0 : Nat) (hS : st.heap.get? S = some { cls := .type "list", data := .seq #[] c0 }) (hn : es.size ≤ sizeLine)
    (hR : ∀ h' tk acc c Ts, (∀ b o, b ≠ S → st.heap.get? b = some o → h'.get? b = some o) → h'.get? S = some { cls := .type "list", dict := none, data := .seq acc c, slots := #[] } → Ts.length = es.size → MadeI es h' (st.heap.objs.size + 1) acc Ts → R (.ok (.ret res)) { st with heap := h', toks := tk }) :
    wpAny (model prog w) A.in1 (Builtin.List.listExtendWith (.ref S) (.ref r) res) (fun fin s' => match fin with | .done f => R (.ok f) s' | .again c' => c'.quiet = true ∧ codeAny (model prog w) A c' R s') (fun e s' => R (.error e) s') st := by
  have sl : S < st.heap.objs.size := Heap.lt_size hS
  have dl : d < st.heap.objs.size := by obtain ⟨o, ho, _⟩ := hr; exact Heap.lt_size ho
  have key : ∀ (h : Heap) (c1 tk : Nat), (∀ b o, b ≠ S → (st.heap.push { cls := .type "dict_itemiterator", data := .fields #[.none, .bool false, .ref d, .int 0 0, .int es.size 0, .int ep 0, .none, .none] }).get? b = some o → h.get? b = some o) → st.heap.objs.size + 1 ≤ h.objs.size →
      h.get? S = some { cls := .type "list", data := .seq #[] c1 } → codeAny (model prog w) A (.builtin "list.extend.loop" ⟨[.ref S, .ref st.heap.objs.size, res], []⟩) R { st with heap := h, toks := tk } := by
    intro h c1 tk hk hz hS1
    have hI : IsItemIter h st.heap.objs.size d 0 es.size ep .none .none := hk _ _ (Nat.ne_of_gt sl) (Heap.get?_push_size _ rfl)
    exact it_loop hh (Nat.ne_of_lt dl) hn S (st.heap.objs.size + 1) (Nat.ne_of_lt sl) hSd (Nat.lt_succ_self _) (Nat.lt_succ_of_lt sl) res es.size 0 { st with heap := h, toks := tk } #[] c1 [] (Nat.sub_zero _) (Nat.zero_le _) ⟨hr.at fun o y => hk d o hSd (Heap.get?_push_of_some _ y), .inl ⟨_, _, hI⟩⟩ hS1 hz rfl
      ⟨rfl, .nil, fun T hT => (nomatch hT), fun j T hT => by simp at hT⟩ fun h' tk' acc c' Ts k2 hS2 hl hm => hR h' tk' acc c' Ts (fun b o bS y => k2 b o (Nat.ne_of_lt (Heap.lt_size y)) bS (hk b o bS (Heap.get?_push_of_some _ y))) hS2 hl hm
  unfold Builtin.List.listExtendWith; refine wpAny_bind (wpAny_typeOf (T := "dict_items") hv.typeIs ?_)
  have h1 : Builtin.List.listSameRef (.ref S) (.ref r) = false := by simp [Builtin.List.listSameRef, hSr]
  have h2 : (Value.type "dict_items" == Value.type "list") = false := by decide
  have h3 : (Value.type "dict_items" == Value.type "tuple") = false := by decide
  simp only [h1, h2, h3, Bool.or_false, Bool.false_eq_true, if_false]
  refine wpAny_bind (wpAny_pyIter_items_raw hv hr ?_)
  have s1 := Heap.get?_push_of_some { cls := .type "dict_itemiterator", data := .fields #[.none, .bool false, .ref d, .int 0 0, .int es.size 0, .int ep 0, .none, .none] } hS
  have zp : (st.heap.push { cls := .type "dict_itemiterator", data := .fields #[.none, .bool false, .ref d, .int 0 0, .int es.size 0, .int ep 0, .none, .none] }).objs.size = st.heap.objs.size + 1 := Heap.size_push ..
  refine wpAny_bind (wpAny_holding (PySem.W.kdx_hint (let ⟨o, ho, hc, _⟩ := hv; ⟨o, Heap.get?_push_of_some _ ho, hc⟩) ?_))
  refine wpAny_ite_split (fun _ => ?_) (fun _ => wpAny_pure ⟨plainId_quiet F.plain_extend_loop _, key _ c0 _ (fun b o _ y => y) (by rw [zp]; exact Nat.le_refl _) s1⟩)
  refine wpAny_bind (wpAny_rule ?_); refine wpAny_bind ?_
  show wpAny _ _ (updateSeq S (·.push .none) >>= fun _ => updateSeq S (·.pop)) _ _ _
  refine wpAny_bind (wpAny_updateSeq s1 rfl ?_)
  have s2 := Heap.get?_update_self (Obj.mapSeq (·.push Value.none)) s1 rfl
  refine wpAny_updateSeq (hz := by seq_fits) s2 rfl ?_
  have s3 := Heap.get?_update_self (Obj.mapSeq (·.pop)) s2 rfl
  exact wpAny_pure ⟨plainId_quiet F.plain_extend_loop _, key _ _ _ (fun b o hb y => (Heap.get?_update_other _ _ (Ne.symm hb)).trans ((Heap.get?_update_other _ _ (Ne.symm hb)).trans y)) (by rw [Heap.size_update, Heap.size_update, zp]; exact Nat.le_refl _) s3⟩
theorem it_init {R : Result → Shared → Prop} (hh : A.handled = none) (hv : st.heap.IsItemsView r d) (hr : st.heap.DictRaw d es ep) (S : Addr) (hSr : S ≠ r) (hSd : d ≠ S) (hS : st.heap.get? S = some { cls := .type "list", data := .seq #[] }) (hn : es.size ≤ sizeLine)
    (hR : ∀ h' tk acc c Ts, (∀ b o, b ≠ S → st.heap.get? b = some o → h'.get? b = some o) → h'.get? S = some { cls := .type "list", dict := none, data := .seq acc c, slots := #[] } → Ts.length = es.size → MadeI es h' (st.heap.objs.size + 1) acc Ts → R (.ok (.ret .none)) { st with heap := h', toks := tk }) :
    wpAny (model prog w) A.in1 (Builtin.«list.__init__» ⟨[.ref S, .ref r], []⟩) (fun fin s' => match fin with | .done f => R (.ok f) s' | .again c' => c'.quiet = true ∧ codeAny (model prog w) A c' R s') (fun e s' => R (.error e) s') st := by
  show wpAny _ _ (do let old ← Builtin.List.listItems (.ref S); Builtin.List.listUpdate (.ref S) (fun _ => #[]); letGo old.toList.reverse; Builtin.List.listExtendWith (.ref S) (.ref r) .none) _ _ st
  refine wpAny_bind ?_
  unfold Builtin.List.listItems; refine wpAny_bind (wpAny_seqItems hS rfl (wpAny_pure ?_))
  show wpAny _ _ (updateSeq S (fun _ => #[]) >>= fun _ => letGo (#[] : Array Value).toList.reverse >>= fun _ => Builtin.List.listExtendWith (.ref S) (.ref r) .none) _ _ st
  refine wpAny_bind (wpAny_updateSeq hS rfl ?_)
  have s2 := Heap.get?_update_self (Obj.mapSeq (fun _ => (#[] : Array Value))) hS rfl
  have oth : ∀ b o, b ≠ S → st.heap.get? b = some o → (st.heap.update S (Obj.mapSeq (fun _ => (#[] : Array Value)))).get? b = some o := fun b o hb y => (Heap.get?_update_other _ _ (Ne.symm hb)).trans y
  refine wpAny_bind (wpAny_letGo ?_)
  refine it_extend (st := { st with heap := st.heap.update S (Obj.mapSeq (fun _ => (#[] : Array Value))) }) hh (let ⟨o, ho, x⟩ := hv; ⟨o, oth r o hSr.symm ho, x⟩) (hr.at fun o y => oth d o hSd y) S hSr hSd .none _ s2 hn fun h' tk acc c Ts hk hS' hl hm => ?_
  refine hR h' tk acc c Ts (fun b o hb y => hk b o hb (oth b o hb y)) hS' hl ?_
  have e : (st.heap.update S (Obj.mapSeq (fun _ => (#[] : Array Value)))).objs.size = st.heap.objs.size := Heap.size_update ..
  rw [show ({ st with heap := st.heap.update S (Obj.mapSeq (fun _ => (#[] : Array Value))) } : Shared).heap.objs.size = st.heap.objs.size from e] at hm
  exact hm
theorem it_call {Q : Value → Shared → Prop} (hh : A.handled = none) (hv : st.heap.IsItemsView r d) (hr : st.heap.DictRaw d es ep) (hn : es.size ≤ sizeLine)
    (q : ∀ h' tk acc c Ts, (∀ b o, st.heap.get? b = some o → h'.get? b = some o) → h'.get? st.heap.objs.size = some { cls := .type "list", dict := none, data := .seq acc c, slots := #[] } → Ts.length = es.size → MadeI es h' (st.heap.objs.size + 2) acc Ts → Q (.ref st.heap.objs.size) { st with heap := h', toks := tk }) :
    wpAny (model prog w) A (call (.type "list") [.ref r]) Q E st := by
  refine callType_codes (Q₁ := fun o s1 => o = .ref st.heap.objs.size ∧ s1 = { st with heap := st.heap.push { cls := .type "list", data := .seq #[] } }) F.called_list (F.typeCall_list_1 _) F.entry_list_init (code_list_new _ ⟨rfl, rfl⟩) fun o s1 h1 => ?_
  obtain ⟨rfl, rfl⟩ := h1
  have hS : (st.heap.push { cls := .type "list", data := .seq #[] }).get? st.heap.objs.size = some { cls := .type "list", data := .seq #[] } := Heap.get?_push_size _ rfl
  have rl : r < st.heap.objs.size := let ⟨_, ho, _⟩ := hv; Heap.lt_size ho
  have dl : d < st.heap.objs.size := let ⟨_, ho, _⟩ := hr; Heap.lt_size ho
  refine ⟨⟨_, hS, rfl⟩, F.args_list_init_2 _ _, it_init (A := A.in1) (st := { st with heap := st.heap.push { cls := .type "list", data := .seq #[] } }) hh (let ⟨o, ho, x⟩ := hv; ⟨o, Heap.get?_push_of_some _ ho, x⟩) (hr.at fun o y => Heap.get?_push_of_some _ y) _ (Nat.ne_of_gt rl) (Nat.ne_of_lt dl) hS hn fun h' tk acc c Ts hk hS' hl hm => ?_⟩
  have e : (st.heap.push { cls := .type "list", data := .seq #[] }).objs.size + 1 = st.heap.objs.size + 2 := by rw [Heap.size_push]
  rw [show ({ st with heap := st.heap.push { cls := .type "list", data := .seq #[] } } : Shared).heap.objs.size + 1 = st.heap.objs.size + 2 from e] at hm
  exact ⟨rfl, q h' tk acc c Ts (fun b o y => hk b o (Nat.ne_of_lt (Heap.lt_size y)) (Heap.get?_push_of_some _ y)) hS' hl hm⟩
end
end L2
end

section
set_option Elab.async false
set_option linter.all false
set_option maxRecDepth 100000
set_option maxHeartbeats 1000000
/-! Base h: list(d.items()) as data. -/
variable [Fd.Uw]
namespace L2
open PySem PySem.Spec PyProof.Rows Evl
def putPs : List Addr → List (V × V) → Hp → Hp
  | T :: Ts, p :: ps, H => putPs Ts ps (upd H T (.tup [p.1, p.2]))
  | _, _, H => H
def FreshPs : List Addr → List (V × V) → Hp → Prop
  | T :: Ts, p :: ps, H => H T = none ∧ FreshPs Ts ps (upd H T (.tup [p.1, p.2]))
  | [], [], _ => True
  | _, _, _ => False
section
variable {X : Cx} {pins : List (Addr × Obj)} {σ : L2.St}
/-- from one part of a heap to a longer one, with one object more that is known -/
theorem lay_one {s : Shared} {h' : Heap} {n t0 : Nat} {H : Hp} {T : Addr} {o : HO} (I : Inv X pins σ H { s with heap := cutH h' n, toks := t0 }) (hn : n ≤ h'.objs.size) (h1 : n ≤ T) (h2 : T < h'.objs.size) (ob : ObjOk X.prog X.w (upd H T o) (cutH h' (T + 1)) T o) :
    H T = none ∧ Inv X pins σ (upd H T o) { s with heap := cutH h' (T + 1), toks := t0 } := by
  have hz : (cutH h' n).objs.size = n := cutH_size hn
  refine ⟨I.hok.fresh (by rw [show ({ s with heap := cutH h' n, toks := t0 } : Shared).heap.objs.size = n from hz]; exact h1), I.laid (t' := t0) (h' := cutH h' (T + 1)) (fun b u hb => ?_) (by rw [show ({ s with heap := cutH h' n, toks := t0 } : Shared).heap.objs.size = n from hz]; exact h1) ob⟩
  have lt : b < n := by
    have := Heap.lt_size hb
    rw [show ({ s with heap := cutH h' n, toks := t0 } : Shared).heap.objs.size = n from hz] at this
    exact this
  rw [show ({ s with heap := cutH h' n, toks := t0 } : Shared).heap.get? b = h'.get? b from cutH_get hn lt] at hb
  rw [cutH_get h2 (Nat.lt_succ_of_lt (Nat.lt_of_lt_of_le lt h1))]
  exact hb
theorem lay_ps {s : Shared} {h' : Heap} {t' : Nat} : ∀ (Ts : List Addr) (ps : List (V × V)) (n : Nat) (H : Hp) (t0 : Nat), Inv X pins σ H { s with heap := cutH h' n, toks := t0 } → n ≤ h'.objs.size → Ts.Pairwise (· < ·) → (∀ T ∈ Ts, n ≤ T ∧ T < h'.objs.size) → Ts.length = ps.length →
    (∀ (j : Nat) T p, Ts[j]? = some T → ps[j]? = some p → ∃ u v, h'.get? T = some { cls := .type "tuple", data := .seq #[u, v] } ∧ RelV p.1 u ∧ RelV p.2 v) → FreshPs Ts ps H ∧ Inv X pins σ (putPs Ts ps H) { s with heap := h', toks := t' }
  | [], [], n, H, t0, I, hn, _, _, _, _ => ⟨True.intro, I.kept (t' := t') fun b o hb => by
    have lt : b < n := by
      have := Heap.lt_size hb
      rw [show (cutH h' n).objs.size = n from cutH_size hn] at this
      exact this
    rw [show ({ s with heap := cutH h' n, toks := t0 } : Shared).heap.get? b = h'.get? b from cutH_get hn lt] at hb
    exact hb⟩
  | [], _ :: _, _, _, _, _, _, _, _, hl, _ => by simp at hl
  | _ :: _, [], _, _, _, _, _, _, _, hl, _ => by simp at hl
  | T :: Ts, p :: ps, n, H, t0, I, hn, up, bd, hl, ob => by
    obtain ⟨hT1, hT2⟩ := bd T (List.mem_cons_self ..)
    obtain ⟨u, v, o1, r1, r2⟩ := ob 0 T p rfl rfl
    have n2 : T + 1 ≤ h'.objs.size := hT2
    have hob : (cutH h' (T + 1)).get? T = some { cls := .type "tuple", data := .seq #[u, v] } := by
      rw [cutH_get n2 (Nat.lt_succ_self T)]
      exact o1
    obtain ⟨fr, I2⟩ := lay_one (o := .tup [p.1, p.2]) I hn hT1 hT2 (show ObjOk X.prog X.w _ _ _ (.tup [p.1, p.2]) from ⟨by rw [sizeLine_eq]; show 2 ≤ _; omega, [u, v], .cons r1 (.cons r2 .nil), ⟨_, hob, rfl, 0, rfl⟩⟩)
    rw [List.pairwise_cons] at up
    obtain ⟨f1, f2⟩ := lay_ps Ts ps (T + 1) _ t0 I2 n2 up.2 (fun U hU => ⟨up.1 U hU, (bd U (List.mem_cons_of_mem _ hU)).2⟩) (by simpa using hl) fun j U q hU hq => ob (j + 1) U q hU hq
    exact ⟨⟨fr, f1⟩, f2⟩
/-- list(e.items()) -/
def tLstIt (td : TE) : TE := fun σ H Q => td σ H fun x H1 => ∃ (d : Addr) (es : Array DictEntry) (ep : Nat), x = .ref d ∧ (d == sysModules) = false ∧ H1 d = some (DicO d es ep) ∧ (Program → World → ∃ ps : List (V × V), es.size ≤ 100000 ∧ ps.length = es.size ∧
  (∀ (j : Nat) (hj : j < es.size) p, ps[j]? = some p → RelV p.1 es[j].key ∧ RelV p.2 es[j].val) ∧
  ∀ (S : Addr) (Ts : List Addr), Ts.length = es.size → H1 S = none → FreshPs Ts ps (upd H1 S (.lst (Ts.map .ref))) → Q (.ref S) (putPs Ts ps (upd H1 S (.lst (Ts.map .ref)))))
theorem pe_lstIt {e : Expr} {td : TE} {p apos cpos pos : Pos} (hc : X.calm = true) (hg : Gl X "list") (hm : X.mg "list" = none) (he : PE X e td) (hbase : attributeBase e "items" X.env (eval e X.env) = eval e X.env := by rfl) (hline : (apos.endLine == cpos.line) = true := by rfl)
    (na : starEach [.Call (.Attribute e "items" apos) [] [] cpos] X.env = (false, eval (.Call (.Attribute e "items" apos) [] [] cpos) X.env) :: starEach [] X.env := by rfl) :
    PE X (.Call (.Name "list" p) [.Call (.Attribute e "items" apos) [] [] cpos] [] pos) (tLstIt td) := by
  refine ⟨fun pins s σ H Q I h => ?_⟩
  refine Call_ (ld_blt I hg hm boot_list (PyProof.Rows.callWith_type1 (args_cons ?_ na) na))
  refine wpAny_Call_method (T := "dict") (id := "dict.items") hbase rfl hline F.plainAttrs_dict F.slot_dict_items F.type_dict_items (thn (he.run pins s σ H _ I h) fun u s1 ⟨x, H1, I1, rx, d, es, ep, ex, hd0, hd, q⟩ => ?_)
  subst ex
  cases (show u = Value.ref d from rx)
  have raw := (show ObjOk X.prog X.w H1 s1.heap d (DicO d es ep) from I1.hok d _ hd).1
  obtain ⟨ps, hz, hpl, hpr, q⟩ := q X.prog X.w
  refine ⟨raw.typeIs, fun b eb => ?_, ?_⟩
  · cases eb
    obtain ⟨o, ho, hx, _⟩ := raw
    exact ⟨o, ho, hx.2.1⟩
  show wpAny _ _ (callWith cpos (.builtin "dict.items") [.ref d] [] []) _ X.xe s1
  refine method_meetsIn F.slot_dict_items F.entry_dict_items rfl (PySem.evalArgs_none ⟨rfl, raw.typeIs, F.args_dict_items_1 _, _, meets_dict_items_raw d hd0, ⟨es, ep, raw⟩, args_nil ?_⟩)
  have dl : d < s1.heap.objs.size := let ⟨_, ho, _⟩ := raw; Heap.lt_size ho
  refine it_call (d := d) (es := es) (ep := ep) (st := { s1 with heap := s1.heap.push { cls := .type "dict_items", data := .fields #[.ref d] } }) (I1.ok.hd hc) ⟨_, Heap.get?_push_size _ rfl, rfl, rfl⟩ (raw.at fun o y => Heap.get?_push_of_some _ y) (Nat.le_trans hz (by rw [sizeLine_eq]; decide)) fun h' tk acc c Ts k2 hS hl hm2 => ?_
  have zp : ({ s1 with heap := s1.heap.push { cls := .type "dict_items", data := .fields #[.ref d] } } : Shared).heap.objs.size = s1.heap.objs.size + 1 := Heap.size_push ..
  rw [zp] at hS hm2 ⊢
  have keep : ∀ b o, s1.heap.get? b = some o → h'.get? b = some o := fun b o y => k2 b o (Heap.get?_push_of_some _ y)
  have zs : s1.heap.objs.size + 1 < h'.objs.size := Heap.lt_size hS
  have zn : s1.heap.objs.size ≤ h'.objs.size := Nat.le_of_lt (Nat.lt_of_succ_lt zs)
  have I2 : Inv X pins σ H1 { s1 with heap := cutH h' s1.heap.objs.size, toks := tk } := I1.kept (t' := tk) fun b o y => by
    rw [cutH_get zn (Heap.lt_size y)]
    exact keep b o y
  have ea : acc = (Ts.map Value.ref).toArray := by rw [← hm2.acc]
  subst ea
  have hob : (cutH h' (s1.heap.objs.size + 1 + 1)).get? (s1.heap.objs.size + 1) = some { cls := .type "list", dict := none, data := .seq (Ts.map Value.ref).toArray c, slots := #[] } := by
    rw [cutH_get zs (Nat.lt_succ_self _)]
    exact hS
  obtain ⟨fS, I3⟩ := lay_one (o := .lst (Ts.map .ref)) I2 zn (Nat.le_succ _) zs (show ObjOk X.prog X.w _ _ _ (.lst (Ts.map .ref)) from ⟨by rw [List.length_map, hl]; exact Nat.le_trans hz (by rw [sizeLine_eq]; decide), Ts.map Value.ref, c, vals_rfs Ts, hob⟩)
  obtain ⟨fP, I4⟩ := lay_ps (t' := tk) Ts ps _ _ tk I3 zs hm2.up (fun T hT => ⟨Nat.le_trans (Nat.le_succ (s1.heap.objs.size + 2)) (hm2.bd T hT).1, (hm2.bd T hT).2⟩) (by rw [hl, hpl]) fun j T p hT hp => by
    obtain ⟨hj, h1⟩ := hm2.ob j T hT
    obtain ⟨r1, r2⟩ := hpr j hj p hp
    exact ⟨_, _, h1, r1, r2⟩
  exact ⟨.ref (s1.heap.objs.size + 1), _, I4, rfl, q _ Ts hl fS fP⟩
end
/-- the keys and values of a known dict with tuple keys -/
theorem TupEs.pairs {K : PySem.W.Frag} {H : Hp} {es : Array DictEntry} {kvs : List (NestedKey × V)} (P : Program) (w : World) (h : TupEs K H es kvs) : ∃ ps : List (V × V), ps.length = es.size ∧ (∀ (j : Nat) (hj : j < es.size) p, ps[j]? = some p → RelV p.1 es[j].key ∧ RelV p.2 es[j].val) ∧
    Paired (fun (p : V × V) (x : NestedKey × V) => (∃ b, p.1 = .ref b ∧ KeyT K H b x.1) ∧ p.2 = x.2) ps kvs := by
  obtain ⟨ys, h1, h2, h3⟩ := h
  have e := h1 P w
  have hl : es.size = ys.length := by
    have := congrArg List.length e
    simpa using this
  refine ⟨List.zipWith (fun (y : NestedKey × Addr × Value) (x : NestedKey × V) => ((V.ref y.2.1 : V), x.2)) ys kvs, by rw [List.length_zipWith, ← Paired.length h3, Nat.min_self, hl], fun j hj p hp => ?_, ?_⟩
  · rw [List.getElem?_zipWith] at hp
    have hy := List.getElem?_eq_getElem (l := ys) (i := j) (by omega)
    have hx := List.getElem?_eq_getElem (l := kvs) (i := j) (by rw [← Paired.length h3]; omega)
    rw [hy, hx] at hp
    cases hp
    have e2 : es.toList[j]? = some (entryOfKey (nestedKind P w) ys[j]) := by rw [e, List.getElem?_map, hy]; rfl
    have e3 : es[j] = entryOfKey (nestedKind P w) ys[j] := by
      rw [Array.getElem?_toList, Array.getElem?_eq_getElem hj] at e2
      exact Option.some.inj e2
    have pg : ∀ {ys : List (NestedKey × Addr × Value)} {kvs : List (NestedKey × V)}, Paired (fun (y : NestedKey × Addr × Value) (x : NestedKey × V) => x.1 = y.1 ∧ KeyT K H y.2.1 y.1 ∧ RelV x.2 y.2.2) ys kvs → ∀ (i : Nat) y x, ys[i]? = some y → kvs[i]? = some x → RelV x.2 y.2.2 := by
      intro ys kvs p
      induction p with
      | nil => intro i y x h; simp at h
      | cons q _ ih =>
        intro i y x h h'
        cases i with
        | zero => cases h; cases h'; exact q.2.2
        | succ i => exact ih i y x h h'
    exact ⟨by rw [e3]; rfl, by rw [e3]; exact pg h3 j _ _ hy hx⟩
  · clear e hl h1 h2
    induction h3 with
    | nil => exact .nil
    | cons q _ ih => exact .cons ⟨⟨_, rfl, by rw [q.1]; exact q.2.1⟩, rfl⟩ ih
end L2
namespace Fd
open PySem PySem.Spec PyProof.Rows L2 Evl Tb
section
variable {K : PySem.W.Frag} {te : TE} {f : Dn PyData}
/-- the key is not empty; key and value are not both pairs of ints -/
def itemOk (d : PyData × PyData) : Bool := !isEmpT d.1 && !towerish [d.1, d.2]
theorem gr_putPs : ∀ (Ts : List Addr) (ps : List (V × V)) (kvs : List (NestedKey × V)) (ds : List (PyData × PyData)) (B0 B H : Hp), Ex B0 B → Ex B H → FreshPs Ts ps H → Ts.length = ps.length → Paired (fun (p : V × V) (x : NestedKey × V) => (∃ b, p.1 = .ref b ∧ KeyT K B0 b x.1) ∧ p.2 = x.2) ps kvs →
    (ds.map fun d => keyD d.1) = (kvs.map fun x => some x.1) → DqAll K B0 (kvs.map (·.2)) (ds.map (·.2)) → (∀ d ∈ ds, itemOk d = true) → Gr B H (putPs Ts ps B) (putPs Ts ps H) ∧ DqAll K (putPs Ts ps B) (Ts.map V.ref) (ds.map fun d => .tuple [d.1, d.2])
  | [], _, _, ds, B0, B, H, x0, x, _, hl, .nil, hk, _, _ => by
    cases ds with
    | nil => exact ⟨.refl x, .nil⟩
    | cons d ds => simp at hk
  | _ :: _, _, _, _, _, _, _, _, _, _, hl, .nil, _, _, _ => by simp at hl
  | [], _, _, _, _, _, _, _, _, _, hl, .cons _ _, _, _, _ => by simp at hl
  | T :: Ts, p :: ps, k :: kvs, ds, B0, B, H, x0, x, h, hl, .cons q t, hk, hv, ho => by
    cases ds with
    | nil => simp at hk
    | cons d ds =>
      rw [List.map_cons, List.map_cons] at hk hv
      obtain ⟨⟨b, e1, kt⟩, e2⟩ := q
      have hk1 := (List.cons.inj hk).1
      cases hv with
      | cons hv1 hv2 =>
        have g : Gr B H (upd B T (.tup [p.1, p.2])) (upd H T (.tup [p.1, p.2])) := Gr.new x h.1
        obtain ⟨g2, h2⟩ := gr_putPs Ts ps kvs ds B0 _ _ (x0.trans g.hg) g.g2 h.2 (by simpa using hl) t (List.cons.inj hk).2 hv2 fun d hd => ho d (List.mem_cons_of_mem _ hd)
        have ho1 : isEmpT d.1 = false ∧ towerish [d.1, d.2] = false := by
          have := ho d (List.mem_cons_self ..)
          unfold itemOk at this
          simpa using this
        refine ⟨g.trans g2, .cons (dp_mono g2.hg (.tupN (st_of upd_same) (.cons ?_ (.cons ?_ .nil)) ho1.2)) h2⟩
        · have z := keyT_dq (kt.mono (x0.trans g.hg)) hk1 ho1.1
          rwa [← e1] at z
        · have z := dp_mono (x0.trans g.hg) hv1
          rwa [← e2] at z
/-- list(x.items()) -/
def dLstIt (f : Dn PyData) : Dn (List PyData) := dBind f fun x => match x with
  | .dict ds => if ((ds.all fun d => tupKey d.1) && (decide (ds.length ≤ 90000) && ds.all itemOk)) = true then dK (ds.map fun d => .tuple [d.1, d.2]) else fun _ => none
  | _ => fun _ => none
theorem sl_lstIt (h : SE K te f) : SL K (tLstIt te) (dLstIt f) := fun W hW σ e B H a rs e' h' Q q => by
  obtain ⟨d, e1, h1, h2⟩ := dBind_some h'
  split at h2
  case h_2 => cases h2
  rename_i ds
  split at h2
  case isFalse => cases h2
  rename_i hc
  obtain ⟨rfl, rfl⟩ := dK_some h2
  rw [Bool.and_eq_true, Bool.and_eq_true] at hc
  have hit := List.all_eq_true.mp hc.2.2
  have hlen := of_decide_eq_true hc.2.1
  refine h W hW σ e B H a _ e' h1 _ fun v B1 H1 a1 g1 d1 => ?_
  obtain ⟨p, es, ep, kvs, rfl, hm, hb, hz, ht, hk, hv⟩ := dic_tupO d1 hc.1
  have hl : ds.length = kvs.length := by
    have := congrArg List.length hk
    rw [List.length_map, List.length_map] at this
    exact this
  refine ⟨p, es, ep, rfl, hm, a1.ex _ _ hb, fun P w => ?_⟩
  obtain ⟨ps, p1, p2, p3⟩ := TupEs.pairs P w ht
  have hes : es.size ≤ 100000 := by
    rw [← p1, Paired.length p3, ← hl]
    omega
  refine ⟨ps, hes, p1, p2, fun S Ts hT hS fr => ?_⟩
  have hB := fresh_back a1.ex hS
  have hn : ¬ Ow σ e' S := fun z => (a1.ow z).2.1 hS
  have x1 : Ex B1 (upd H1 S (.lst (Ts.map .ref))) := Ex.mut a1.ex hB
  obtain ⟨g2, d2⟩ := gr_putPs Ts ps kvs ds B1 B1 _ (Ex.refl _) x1 fr (by rw [hT, p1]) p3 hk hv hit
  have a2 : At W σ e' B1 (upd H1 S (.lst (Ts.map .ref))) := a1.oth hB hn
  have g3 : Gx σ e B H e' B1 (upd H1 S (.lst (Ts.map .ref))) := ⟨g1.go.put (g1.go.dm S hS), g1.ow⟩
  refine q S (Ts.map .ref) _ _ (a2.gr g2) (g3.trans (gx_gr g2)) (g1.go.dm S hS) (g2.h12 _ _ upd_same) (g2.sep S hB (by rw [upd_same]; exact fun z => nomatch z)) d2
end
end Fd
end

section
set_option Elab.async false
set_option linter.all false
set_option maxRecDepth 100000
set_option maxHeartbeats 1000000
/-! Base i: dict(a tuple of pairs of ints). -/
variable [Fd.Uw]
namespace Fd
open PySem PySem.Spec PyProof.Rows L2 Evl Tb
def rDictZ (K : PySem.W.Frag) : List V → Hp → VK → Prop := fun xs H Q => ∃ (a : Addr) (o : Obj) (ps : List Addr) (kvs : List (Key × V)), xs = [V.ref a] ∧ H a = some (.frz o (.tup (ps.map V.ref))) ∧ o.cls = .type "tuple" ∧ o.dict = none ∧
    Paired (fun p kv => SqT K H p [kV kv.1, kv.2]) ps kvs ∧ ∀ p, H p = none → Q (.ref p) (upd H p (.dK (mergeK [] kvs)))
theorem ck_dictZ {X : Cx} {K : PySem.W.Frag} (h : X.K = K) (hc : X.calm = true) : CallR X (.type "dict") (rDictZ K) := h ▸ Tb.call_dict_fz hc
def ikD (p : Int × Int) : PyData × PyData := (.int p.1, .int p.2)
def dictZD : List PyData → Option PyData
  | [.tuple ds] => (prsOf ds).map fun ps => .dict (mkDict (ps.map ikD))
  | _ => none
section
variable {K : PySem.W.Frag} {B : Hp}
theorem KVD.merge : ∀ {more : List (Key × V)} {ps : List (PyData × PyData)} {kvs : List (Key × V)} {ds : List (PyData × PyData)}, KVD K B more ps → KVD K B kvs ds → KVD K B (mergeK kvs more) (ps.foldl (fun acc p => putD acc p.1 p.2) ds)
  | _, _, _, _, .nil, h => h
  | _ :: _, _ :: _, _, _, .cons g t, h => by
    have z := KVD.merge t (h.put g.1 g.2)
    exact z
theorem prs_tow : ∀ ps : List (Int × Int), towerish (ps.map prTup) = true
  | [] => rfl
  | p :: ps => by
    have := prs_tow ps
    show (true && (ps.map prTup).all pairI) = true
    exact this
theorem prs_kvs : ∀ {ps : List (Int × Int)} {xs : List V}, DqAll K B xs (ps.map prTup) → ∃ (as : List Addr) (kvs : List (Key × V)), xs = as.map V.ref ∧ Paired (fun p kv => SqT K B p [kV kv.1, kv.2]) as kvs ∧ KVD K B kvs (ps.map ikD)
  | [], _, .nil => ⟨[], [], rfl, .nil, .nil⟩
  | p :: ps, _, .cons h t => by
    obtain ⟨as, kvs, rfl, h2, h3⟩ := prs_kvs t
    obtain ⟨a, rfl, h4⟩ := pr_of h
    exact ⟨a :: as, (.inl p.1, .int p.2) :: kvs, rfl, .cons h4 h2, .cons ⟨rfl, .int _⟩ h3⟩
theorem se_dictZ {ta : TA} {fl : Dn (List PyData)} (h : SA K ta fl) : SE K (tExE (tCB (rDictZ K) ta)) (dCb dictZD fl) := fun W hW σ e B H a d e' h' Q q => by
  obtain ⟨ds, e1, h1, h2⟩ := dBind_some h'
  obtain ⟨h3, rfl⟩ := dLift_some h2
  unfold dictZD at h3
  split at h3
  case h_2 => cases h3
  rename_i zs
  obtain ⟨ps, h4, rfl⟩ := Option.map_eq_some_iff.mp h3
  rw [prsOf_some h4] at h1
  refine h W hW σ e B H a _ e' h1 _ fun vs B1 H1 a1 g1 d1 => ?_
  cases d1 with
  | cons hv hr =>
    cases hr
    obtain ⟨b, xs, rfl, k1, k2, k3⟩ := hv.tup_ofP
    obtain ⟨o, k4, k5, k6⟩ := k3 (prs_tow ps)
    obtain ⟨as, kvs, rfl, k7, k8⟩ := prs_kvs k2
    refine ⟨b, o, as, kvs, rfl, a1.ex _ _ k4, k5, k6, Paired.mapP k7 fun p kv z => ex_t a1.ex z, fun p hp => ?_⟩
    have kd : ∀ o', KVD K (upd B1 p o') (mergeK [] kvs) (mkDict (ps.map ikD)) := fun o' => KVD.merge (k8.mono (Ex.new (fresh_back a1.ex hp))) .nil
    refine ⟨p, mergeK [] kvs, rfl, upd_same, fun hne => ?_, fun he hm ep => ?_⟩
    · have g : Gr B1 H1 (upd B1 p (.dK (mergeK [] kvs))) (upd H1 p (.dK (mergeK [] kvs))) := Gr.new a1.ex hp
      exact q _ _ _ (a1.gr g) (g1.trans (gx_gr g)) (KVD.dq hne upd_same (kd _))
    · have g : Gr B1 H1 (upd B1 p (DicO p #[] ep)) (upd H1 p (DicO p #[] ep)) := Gr.new a1.ex hp
      rw [upd_upd]
      have z := kd (DicO p #[] ep)
      rw [he] at z
      have ed : mkDict (ps.map ikD) = [] := by
        have := KVD.length z
        exact List.eq_nil_of_length_eq_zero this.symm
      rw [ed] at q
      exact q _ _ _ (a1.gr g) (g1.trans (gx_gr g)) (dq_empty K hm upd_same)
end
end Fd
end

section
set_option Elab.async false
set_option linter.all false
set_option maxRecDepth 100000
set_option maxHeartbeats 1000000
/-! Base h: sorted of flat tuples of ints and texts (machine level): an order of rows of keys. -/
variable [Fd.Uw]
namespace Flx
open PySem PyProof.Rows Srt SrtO L2
def ltK : Key → Key → Bool
  | .inl i, .inl j => decide (i < j)
  | .inl _, .inr _ => true
  | .inr _, .inl _ => false
  | .inr x, .inr y => decide (x.cps.toList < y.cps.toList)
def lexK : List Key → List Key → Bool
  | [], [] => false
  | [], _ :: _ => true
  | _ :: _, [] => false
  | a :: as, b :: bs => if a = b then lexK as bs else ltK a b
theorem ltK_irr (a : Key) : ltK a a = false := by
  cases a with
  | inl i => exact decide_eq_false (Int.lt_irrefl i)
  | inr x => exact decide_eq_false (List.lt_irrefl _)
theorem ltK_tr {a b c : Key} (h1 : ltK a b = true) (h2 : ltK b c = true) : ltK a c = true := by
  cases a <;> cases b <;> cases c <;> simp only [ltK, decide_eq_true_eq, Bool.false_eq_true] at *
  · omega
  · exact List.lt_trans h1 h2
theorem ltK_tot {a b : Key} (h : a ≠ b) : ltK a b = true ∨ ltK b a = true := by
  cases a with
  | inl i =>
    cases b with
    | inl j =>
      simp only [ltK, decide_eq_true_eq]
      have : i ≠ j := fun z => h (by rw [z])
      omega
    | inr y => exact .inl rfl
  | inr x =>
    cases b with
    | inl j => exact .inr rfl
    | inr y =>
      simp only [ltK, decide_eq_true_eq]
      by_cases c1 : x.cps.toList < y.cps.toList
      · exact .inl c1
      · by_cases c2 : y.cps.toList < x.cps.toList
        · exact .inr c2
        · exfalso
          have e : x.cps.toList = y.cps.toList := List.le_antisymm (List.not_lt.mp c2) (List.not_lt.mp c1)
          exact h (by rw [Str.ext' (Array.toList_inj.mp e)])
theorem ltK_asym {a b : Key} (h : ltK a b = true) : ltK b a = false := by
  cases q : ltK b a with
  | false => rfl
  | true =>
    have := ltK_tr h q
    rw [ltK_irr] at this
    cases this
theorem lexK_irr : ∀ a : List Key, lexK a a = false
  | [] => rfl
  | a :: as => by
    rw [lexK, if_pos rfl]
    exact lexK_irr as
theorem lexK_tr : ∀ {a b c : List Key}, lexK a b = true → lexK b c = true → lexK a c = true
  | [], [], _, h, _ => by cases h
  | [], _ :: _, [], _, h => by cases h
  | [], _ :: _, _ :: _, _, _ => rfl
  | _ :: _, [], _, h, _ => by cases h
  | _ :: _, _ :: _, [], _, h => by cases h
  | a :: as, b :: bs, c :: cs, h1, h2 => by
    rw [lexK] at h1 h2 ⊢
    by_cases e1 : a = b
    · subst e1
      rw [if_pos rfl] at h1
      by_cases e2 : a = c
      · rw [if_pos e2] at h2 ⊢
        exact lexK_tr h1 h2
      · rw [if_neg e2] at h2 ⊢
        exact h2
    · rw [if_neg e1] at h1
      by_cases e2 : b = c
      · subst e2
        rw [if_neg e1]
        exact h1
      · rw [if_neg e2] at h2
        have h3 := ltK_tr h1 h2
        have e3 : a ≠ c := fun z => by
          subst z
          rw [ltK_irr] at h3
          cases h3
        rw [if_neg e3]
        exact h3
theorem lexK_tot : ∀ {a b : List Key}, lexK a b = false → lexK b a = false → a = b
  | [], [], _, _ => rfl
  | [], _ :: _, h, _ => by cases h
  | _ :: _, [], _, h => by cases h
  | a :: as, b :: bs, h1, h2 => by
    rw [lexK] at h1 h2
    by_cases e : a = b
    · subst e
      rw [if_pos rfl] at h1 h2
      rw [lexK_tot h1 h2]
    · rw [if_neg e] at h1
      rw [if_neg (fun z => e z.symm)] at h2
      rcases ltK_tot e with z | z
      · rw [h1] at z
        cases z
      · rw [h2] at z
        cases z
theorem lexK_asym {a b : List Key} (h : lexK a b = true) : lexK b a = false := by
  cases q : lexK b a with
  | false => rfl
  | true =>
    have := lexK_tr h q
    rw [lexK_irr] at this
    cases this
theorem lexK_ntr {x y z : List Key} (h1 : lexK y x = false) (h2 : lexK z y = false) : lexK z x = false := by
  by_cases e1 : x = y
  · subst e1
    exact h2
  · by_cases e2 : y = z
    · subst e2
      exact h1
    · have p1 : lexK x y = true := by
        cases q : lexK x y with
        | true => rfl
        | false => exact absurd (lexK_tot q h1) e1
      have p2 : lexK y z = true := by
        cases q : lexK y z with
        | true => rfl
        | false => exact absurd (lexK_tot q h2) e2
      exact lexK_asym (lexK_tr p1 p2)
theorem swo_K (k : Value → List Key) : Swo fun v u => lexK (k v) (k u) := ⟨fun _ _ h => lexK_asym h, fun _ _ _ h1 h2 => lexK_ntr h1 h2⟩
def leafV : Value → Option Key
  | .int i _ => some (.inl i)
  | .str x _ => some (.inr x)
  | _ => none
theorem leafV_int {v : Value} {i : Int} (h : leafV v = some (.inl i)) : ∃ t, v = .int i t := by
  unfold leafV at h
  split at h
  · cases h
    exact ⟨_, rfl⟩
  · cases h
  · cases h
theorem leafV_str {v : Value} {x : Str} (h : leafV v = some (.inr x)) : ∃ t, v = .str x t := by
  unfold leafV at h
  split at h
  · cases h
  · cases h
    exact ⟨_, rfl⟩
  · cases h
def kinds (ks : List Key) : List Bool := ks.map Sum.isLeft
/-- the tuple v has the items ks -/
def IsFlat (h : Heap) (v : Value) (ks : List Key) : Prop := ∃ a o us n, v = .ref a ∧ h.get? a = some o ∧ o.cls = .type "tuple" ∧ o.data = .seq us n ∧ us.toList.map leafV = ks.map some
theorem IsFlat.keeps {h h' : Heap} {v : Value} {ks : List Key} (p : IsFlat h v ks) (k : ∀ b o, h.get? b = some o → o.cls = .type "tuple" → h'.get? b = some o) : IsFlat h' v ks := by
  obtain ⟨a, o, us, n, e, ho, hc, hd⟩ := p
  exact ⟨a, o, us, n, e, k _ _ ho hc, hc, hd⟩
section
variable {prog : Program} {w : World} {A : Around} {E : Value → Shared → Prop} {s : Shared}
theorem flat_lex {Q : Bool → Shared → Prop} : ∀ (ks ls : List Key) (xs ys : List Value) (i : Nat), xs.map leafV = ks.map some → ys.map leafV = ls.map some → kinds ks = kinds ls → (i = 0 → (kinds ks).head? = some true ∨ ks = []) → Q (lexK ks ls) s →
    PySem.W.KatLex prog w A true false Q (xs.zip ys) i s
  | [], [], xs, ys, i, hx, hy, _, _, q => by
    cases xs with
    | nil => exact PySem.W.kat_nil q
    | cons x xs => cases hx
  | [], l :: ls, _, _, _, _, _, hk, _, _ => by cases hk
  | k :: ks, [], _, _, _, _, _, hk, _, _ => by cases hk
  | k :: ks, l :: ls, [], ys, i, hx, _, _, _, _ => by cases hx
  | k :: ks, l :: ls, x :: xs, [], i, _, hy, _, _, _ => by cases hy
  | k :: ks, l :: ls, x :: xs, y :: ys, i, hx, hy, hk, hi, q => by
    rw [List.map_cons, List.map_cons] at hx hy
    obtain ⟨x1, x2⟩ := List.cons.inj hx
    obtain ⟨y1, y2⟩ := List.cons.inj hy
    obtain ⟨k1, k2⟩ : k.isLeft = l.isLeft ∧ kinds ks = kinds ls := List.cons.inj hk
    have ih := flat_lex (Q := Q) ks ls xs ys (i + 1) x2 y2 k2 (fun z => absurd z (Nat.succ_ne_zero i))
    rw [lexK] at q
    cases k with
    | inl a =>
      cases l with
      | inr b => cases k1
      | inl b =>
        obtain ⟨t, rfl⟩ := leafV_int x1
        obtain ⟨u, rfl⟩ := leafV_int y1
        refine PySem.W.kat_cons (SeqAt.EqAt.int_int a t b u prog w _ _ ?_)
        refine PySem.W.kat_go (fun e => ?_) (fun e => ?_)
        · have e : a = b := by simpa using e
          rw [if_pos (by rw [e])] at q
          exact PySem.W.kat_yes (ih q)
        · have e : ¬ a = b := by simpa using e
          rw [if_neg fun z => e (Sum.inl.inj z)] at q
          exact PySem.W.kat_no (TS.oneLt_ints _ q)
    | inr a =>
      cases l with
      | inl b => cases k1
      | inr b =>
        obtain ⟨t, rfl⟩ := leafV_str x1
        obtain ⟨u, rfl⟩ := leafV_str y1
        have i0 : i ≠ 0 := fun z => by
          rcases hi z with e | e
          · cases e
          · cases e
        refine PySem.W.kat_cons (SeqAt.EqAt.str_str a t b u prog w _ _ ?_)
        refine PySem.W.kat_go (fun e => ?_) (fun e => ?_)
        · have e : a = b := by simpa using e
          rw [if_pos (by rw [e])] at q
          exact PySem.W.kat_yes (ih q)
        · have e : ¬ a = b := by simpa using e
          rw [if_neg fun z => e (Sum.inr.inj z)] at q
          refine PySem.W.kat_no ?_
          rw [show (true && i == 0) = false by simp [i0]]
          exact PySem.W.kat_one _ _ (PyProof.Rows.lt_str (Q := PySem.W.BoolBack Q) q)
theorem flat_cmp {vs : List Value} {k : Value → List Key} {κ : List Bool} (hp : ∀ v ∈ vs, IsFlat s.heap v (k v) ∧ kinds (k v) = true :: κ) : Cmp prog w A s (tuples' true) (fun p => p.1 ∈ vs) (lt2 fun v u => lexK (k v) (k u)) := by
  intro p q hm hm'
  obtain ⟨h1, k1⟩ := hp _ hm
  obtain ⟨h2, k2⟩ := hp _ hm'
  show wpAny (model prog w) A (keyLt' (tuples' true) p.1 q.1) (fun r s' => s' = s ∧ r = lexK (k p.1) (k q.1)) (fun _ _ => False) s
  generalize k p.1 = x at h1 k1 ⊢
  generalize k q.1 = y at h2 k2 ⊢
  obtain ⟨a, o, us, n, e, ho, hc, hd, hl⟩ := h1
  obtain ⟨a', o', us', n', e', ho', hc', hd', hl'⟩ := h2
  rw [e, e']
  refine PySem.W.kat_lt ho hd ho' hd' ?_
  have hsz : us.size = us'.size := by
    have z1 := congrArg List.length hl
    have z2 := congrArg List.length hl'
    have z3 := congrArg List.length (k1.trans k2.symm)
    simp only [kinds, List.length_map, Array.length_toList] at z1 z2 z3
    omega
  rw [decide_eq_false (by omega)]
  exact flat_lex x y _ _ 0 hl hl' (k1.trans k2.symm) (fun _ => .inl (by rw [k1]; rfl)) ⟨rfl, rfl⟩
theorem firsts_flat {h : Heap} {k : Value → List Key} {κ : List Bool} : ∀ {vs : List Value}, (∀ v ∈ vs, IsFlat h v (k v) ∧ kinds (k v) = true :: κ) → ∃ fs : List Value, PySem.W.KatTups h vs fs ∧ fs.length = vs.length ∧ ∀ f ∈ fs, ∃ x t, f = Value.int x t
  | [], _ => ⟨[], PySem.W.KatTups.nil, rfl, fun _ hm => by simp at hm⟩
  | v :: vs, hp => by
    obtain ⟨fs, h1, h2, h3⟩ := firsts_flat (vs := vs) fun v' hm => hp v' (List.mem_cons_of_mem _ hm)
    obtain ⟨⟨a, o, us, n, e, ho, hc, hd, hl⟩, hk⟩ := hp v (List.mem_cons_self ..)
    subst e
    cases hkv : k (.ref a) with
    | nil =>
      rw [hkv] at hk
      cases hk
    | cons x ks =>
      rw [hkv] at hk hl
      cases x with
      | inr b => cases hk
      | inl b =>
        obtain ⟨us⟩ := us
        cases us with
        | nil => cases hl
        | cons y ys =>
          have hl' : leafV y :: ys.map leafV = some (Sum.inl b) :: ks.map some := hl
          obtain ⟨t, ey⟩ := leafV_int (List.cons.inj hl').1
          refine ⟨y :: fs, PySem.W.KatTups.cons ho hc hd rfl h1, by rw [List.length_cons, List.length_cons, h2], fun f hm => ?_⟩
          rcases List.mem_cons.mp hm with rfl | hm
          · exact ⟨b, t, ey⟩
          · exact h3 f hm
theorem flats_sortableO {a : Addr} {vs : List Value} {k : Value → List Key} {κ : List Bool} (h0 : 0 < vs.length) (hp : ∀ v ∈ vs, IsFlat s.heap v (k v) ∧ kinds (k v) = true :: κ) (ha : ∀ o, s.heap.get? a = some o → o.cls ≠ .type "tuple") : SortableO prog w A s a vs fun v u => lexK (k v) (k u) := by
  intro h' keep
  have hp' : ∀ v ∈ vs, IsFlat h' v (k v) ∧ kinds (k v) = true :: κ := fun v hm => ⟨(hp v hm).1.keeps fun b o e c => keep b o (fun z => by subst z; exact ha o e c) e, (hp v hm).2⟩
  obtain ⟨fs, h1, h2, h3⟩ := firsts_flat hp'
  refine ⟨tuples' true, fun Q E hq => ?_, flat_cmp hp'⟩
  refine PySem.W.kat_kind (T := .type "int") h1 (by omega) (fun f hm => ?_) (by rfl) ?_
  · obtain ⟨x, t, rfl⟩ := h3 f hm
    exact PySem.W.Looks.now
  · have e : (Value.type "int" != Value.type "tuple") = true := by first | decide +kernel | rfl | decide
    rw [e]
    exact hq
/-- sorted(l) of flat tuples whose kinds agree, the first an int: sorted by k, stable -/
theorem sorted_flatsO {l : Addr} {vs : List Value} {k : Value → List Key} {κ : List Bool} {Q : Value → Shared → Prop} (hl : s.heap.IsList l vs.toArray) (hz : vs.length ≤ sizeLine) (hp : ∀ v ∈ vs, IsFlat s.heap v (k v) ∧ kinds (k v) = true :: κ)
    (h : ∀ (h' : Heap) (d : Addr) (out : List Value), Srtd (fun v u => lexK (k v) (k u)) out → Stb (fun v u => lexK (k v) (k u)) out vs → (∀ b o, s.heap.get? b = some o → h'.get? b = some o) → s.heap.objs.size ≤ d → (∃ n, h'.get? d = some (seqObj "list" out.toArray n)) → Q (.ref d) { s with heap := h' }) :
    wpAny (model prog w) A (call (.builtin "sorted") [.ref l]) Q E s := by
  refine sorted_ord (swo_K k) hl hz (fun h2 h₁ a ha kk => ?_) fun out hs hb => ?_
  · refine flats_sortableO (s := { s with heap := h₁ }) (κ := κ) (by omega) (fun v hm => ⟨(hp v hm).1.keeps fun b o e _ => (kk b o e).2, (hp v hm).2⟩) fun o e => ?_
    have e' : some o = some (seqObj "list" vs.toArray 0) := e.symm.trans ha
    cases e'
    intro c
    exact absurd (Value.type.inj c) (by decide)
  · exact h _ _ out hs hb (fun b o e => sortedAll_old e) (Nat.le_succ _) (sortedAll_at s.heap vs out.toArray)
end
end Flx
end

section
set_option Elab.async false
set_option linter.all false
set_option maxRecDepth 100000
set_option maxHeartbeats 1000000
/-! Base h: sorted of flat tuples of ints and texts, as rules and meanings: sortedVD. -/
variable [Fd.Uw]
namespace Fd
open PySem PySem.Spec PyProof.Rows L2 Evl Tb
theorem leaf_vals : ∀ {ks : List Key} {us : List Value}, Vals (ks.map kV) us → us.map Flx.leafV = ks.map some
  | [], us, r => by
    rw [List.map_nil] at r
    cases r
    rfl
  | k :: ks, us, r => by
    rw [List.map_cons] at r
    cases r with
    | cons h t =>
      rw [List.map_cons, List.map_cons, leaf_vals t]
      cases k with
      | inl i =>
        obtain ⟨t, rfl⟩ := h
        rfl
      | inr x =>
        obtain ⟨t, rfl⟩ := h
        rfl
theorem kV_inj : ∀ {ks ls : List Key}, ks.map kV = ls.map kV → ks = ls
  | [], [], _ => rfl
  | [], _ :: _, h => by cases h
  | _ :: _, [], h => by cases h
  | k :: ks, l :: ls, h => by
    rw [List.map_cons, List.map_cons] at h
    obtain ⟨h1, h2⟩ := List.cons.inj h
    rw [kV_inj h2]
    cases k <;> cases l <;> simp_all [kV]
/-- the items of xs, each with its keys -/
def rSortedFU (K : PySem.W.Frag) : List V → Hp → VK → Prop := fun vs H Q => ∃ (a : Addr) (xs : List V) (ps : List (List Key)) (κ : List Bool), (vs = [.ref a] ∧ SqL K H a xs ∧ xs.length = ps.length) ∧ (∀ z ∈ xs.zip ps, (∃ t, z.1 = V.ref t ∧ SqT K H t (z.2.map kV)) ∧ Flx.kinds z.2 = true :: κ) ∧
  ∀ (zs : List (V × List Key)) p, zs.Perm (xs.zip ps) → zs.Pairwise (fun x y => Flx.lexK y.2 x.2 = false) → H p = none → Q (.ref p) (upd H p (.lst (zs.map (·.1))))
open Classical in
noncomputable def pickF (L : List (V × List Key)) (x : V) : List Key := if h : ∃ p, (x, p) ∈ L then h.choose else []
theorem cr_sortedFU {X : Cx} : CallR X (.builtin "sorted") (rSortedFU X.K) := by
  intro pins s σ H vs us Q I r h
  obtain ⟨a, xs, ps, κ, ⟨rfl, hs, hl⟩, hx, q⟩ := h
  obtain ⟨its, rv, pl, hz⟩ := I.list hs
  obtain ⟨u, rfl, ru⟩ := vals1 r
  cases ru
  have hk : ∀ z ∈ xs.zip ps, pickF (xs.zip ps) z.1 = z.2 := fun z hm => by
    have ex : ∃ p, (z.1, p) ∈ xs.zip ps := ⟨z.2, hm⟩
    unfold pickF
    rw [dif_pos ex]
    obtain ⟨⟨t1, e1, s1⟩, _⟩ := hx _ ex.choose_spec
    obtain ⟨⟨t2, e2, s2⟩, _⟩ := hx _ hm
    rw [e2] at e1
    cases e1
    exact (kV_inj (I.tuple_inj s2 s1)).symm
  have hxs : xs = (xs.zip ps).map (·.1) := (List.map_fst_zip (by omega)).symm
  have hin : ∀ x ∈ xs, ∃ z ∈ xs.zip ps, z.1 = x := fun x hm => by
    rw [hxs] at hm
    exact List.mem_map.mp hm
  obtain ⟨e1, e2⟩ := refs_back rv fun x m => by
    obtain ⟨z, hm, rfl⟩ := hin x m
    obtain ⟨⟨t, e, _⟩, _⟩ := hx z hm
    exact ⟨t, e⟩
  refine Flx.sorted_flatsO (k := fun u => pickF (xs.zip ps) (backV u)) (κ := κ) pl.isList (by rw [← rv.length]; exact hz) ?_ ?_
  · intro v hv
    obtain ⟨t, rfl⟩ := e2 v hv
    obtain ⟨z, hm, ez⟩ := hin (.ref t) (by rw [e1]; exact List.mem_map.mpr ⟨_, hv, rfl⟩)
    obtain ⟨⟨t', et, ht⟩, kn⟩ := hx z hm
    rw [ez] at et
    cases et
    have hp := hk z hm
    rw [ez] at hp
    show Flx.IsFlat s.heap (.ref t) (pickF (xs.zip ps) (.ref t)) ∧ Flx.kinds (pickF (xs.zip ps) (.ref t)) = true :: κ
    rw [hp]
    obtain ⟨w, r2, ⟨o, ho, hc, n, hd⟩, _⟩ := I.tuple ht
    exact ⟨⟨t, o, _, n, rfl, ho, hc, hd, leaf_vals r2⟩, kn⟩
  · intro h' d out h1 h2 kp hd ⟨n, hn⟩
    have h3 : ∀ u ∈ out, ∃ a, u = Value.ref a := fun u hu => e2 u (h2.perm.mem_iff.mp hu)
    have hp : (out.map backV).Perm xs := by
      conv => rhs; rw [e1]
      exact h2.perm.map backV
    have hp2 : ((out.map backV).map fun y => (y, pickF (xs.zip ps) y)).Perm (xs.zip ps) := by
      have e : xs.map (fun y => (y, pickF (xs.zip ps) y)) = xs.zip ps := by
        conv => lhs; rw [hxs]
        rw [List.map_map]
        conv => rhs; rw [← List.map_id (xs.zip ps)]
        apply List.map_congr_left
        intro z hz
        show (z.1, pickF ((xs.zip ps).map (·.1) |>.zip ps) z.1) = z
        rw [← hxs, hk z hz]
      exact (hp.map _).trans (List.Perm.of_eq e)
    have q2 := q _ d hp2 (by
      rw [List.pairwise_map, List.pairwise_map]
      exact h1) (I.hok.fresh hd)
    have e4 : ((out.map backV).map fun y => (y, pickF (xs.zip ps) y)).map (·.1) = out.map backV := by
      rw [List.map_map]
      exact List.map_id' _
    rw [e4] at q2
    refine ⟨.ref d, upd H d (.lst (out.map backV)), I.laid (t' := s.toks) kp hd ⟨?_, out, n, L2.vals_back h3, hn⟩, rfl, q2⟩
    rw [hp.length_eq]
    exact hz
def rSortedV (K : PySem.W.Frag) : List V → Hp → VK → Prop := fun vs H Q => rSortedU K vs H Q ∨ rSortedFU K vs H Q
theorem ck_sortedV {X : Cx} {K : PySem.W.Frag} (h : X.K = K) : CallR X (.builtin "sorted") (rSortedV K) := by
  subst h
  intro pins s σ H vs us Q I r h
  rcases h with h | h
  · exact ck_sortedU rfl pins s σ H vs us Q I r h
  · exact cr_sortedFU pins s σ H vs us Q I r h
def kD : Key → PyData
  | .inl i => .int i
  | .inr x => .str x
abbrev flTup (ks : List Key) : PyData := .tuple (ks.map kD)
def keysI : List PyData → Option (List Key)
  | [] => some []
  | d :: ds => match keyI d, keysI ds with
    | some k, some ks => some (k :: ks)
    | _, _ => none
def flatsOf : List PyData → Option (List (List Key))
  | [] => some []
  | .tuple ds :: r => match keysI ds, flatsOf r with
    | some ks, some kss => some (ks :: kss)
    | _, _ => none
  | _ => none
theorem keyI_kD {d : PyData} {k : Key} (h : keyI d = some k) : d = kD k := by
  unfold keyI at h
  split at h
  · cases h
    rfl
  · cases h
    rfl
  · cases h
theorem keysI_some : ∀ {ds : List PyData} {ks : List Key}, keysI ds = some ks → ds = ks.map kD
  | [], ks, h => by
    cases h
    rfl
  | d :: ds, ks, h => by
    unfold keysI at h
    split at h
    · rename_i k ks' h1 h2
      cases h
      rw [keyI_kD h1, keysI_some h2]
      rfl
    · cases h
theorem keysI_map : ∀ ks : List Key, keysI (ks.map kD) = some ks
  | [] => rfl
  | k :: ks => by
    rw [List.map_cons, keysI, keysI_map ks]
    cases k <;> rfl
theorem flatsOf_some : ∀ {ds : List PyData} {kss : List (List Key)}, flatsOf ds = some kss → ds = kss.map flTup
  | [], kss, h => by
    cases h
    rfl
  | d :: ds, kss, h => by
    unfold flatsOf at h
    split at h
    · cases ‹_ = []›
    · rename_i xs r he
      cases he
      split at h
      · rename_i ks kss' h1 h2
        cases h
        rw [keysI_some h1, flatsOf_some h2]
        rfl
      · cases h
    · cases h
theorem flatsOf_map : ∀ kss : List (List Key), flatsOf (kss.map flTup) = some kss
  | [] => rfl
  | ks :: kss => by
    rw [List.map_cons, flatsOf, keysI_map, flatsOf_map kss]
/-- all rows have the kinds of the first, which begins with an int -/
def kindsOk : List (List Key) → Bool
  | [] => true
  | ks :: r => match Flx.kinds ks with
    | true :: κ => r.all fun l => decide (Flx.kinds l = true :: κ)
    | _ => false
theorem kindsOk_of {kss : List (List Key)} (h : kindsOk kss = true) : ∃ κ, ∀ ks ∈ kss, Flx.kinds ks = true :: κ := by
  cases kss with
  | nil => exact ⟨[], fun _ h => nomatch h⟩
  | cons ks r =>
    cases hk : Flx.kinds ks with
    | nil => simp [kindsOk, hk] at h
    | cons b κ =>
      cases b with
      | false => simp [kindsOk, hk] at h
      | true =>
        have h' : (r.all fun l => decide (Flx.kinds l = true :: κ)) = true := by
          simpa [kindsOk, hk] using h
        refine ⟨κ, fun l hl => ?_⟩
        rcases List.mem_cons.mp hl with rfl | hl
        · exact hk
        · exact of_decide_eq_true (List.all_eq_true.mp h' l hl)
def leF (p q : List Key) : Bool := !Flx.lexK q p
def sortF (ps : List (List Key)) : List (List Key) := ps.mergeSort leF
theorem leF_tr (a b c : List Key) (h1 : leF a b = true) (h2 : leF b c = true) : leF a c = true := by
  unfold leF at *
  rw [Bool.not_eq_true'] at *
  exact Flx.lexK_ntr h1 h2
theorem leF_tot (a b : List Key) : (leF a b || leF b a) = true := by
  unfold leF
  cases h : Flx.lexK b a with
  | false => rfl
  | true =>
    rw [Flx.lexK_asym h]
    rfl
theorem sortF_sorted (ps : List (List Key)) : (sortF ps).Pairwise fun x y => leF x y = true := List.pairwise_mergeSort leF_tr leF_tot ps
theorem sortF_of {ps qs : List (List Key)} (hp : qs.Pairwise fun x y => leF x y = true) (h : qs.Perm ps) : qs = sortF ps := by
  refine List.Perm.eq_of_pairwise (fun a b _ _ h1 h2 => ?_) hp (sortF_sorted ps) (h.trans (List.mergeSort_perm ps leF).symm)
  unfold leF at h1 h2
  rw [Bool.not_eq_true'] at h1 h2
  exact (Flx.lexK_tot h1 h2).symm
def sortedVD (ds : List PyData) : Option (List PyData) := match sortedUD ds with
  | some z => some z
  | none => match ds with
    | [.list xs] => match flatsOf xs with
      | some kss => if kindsOk kss = true then some ((sortF kss).map flTup) else none
      | none => none
    | _ => none
section
variable {K : PySem.W.Frag} {B : Hp} {tr : TA} {fl : Dn (List PyData)}
theorem keys_dq : ∀ {ks : List Key} {us : List V}, DqAll K B us (ks.map kD) → us = ks.map kV
  | [], us, h => by
    rw [List.map_nil] at h
    cases h
    rfl
  | k :: ks, us, h => by
    rw [List.map_cons] at h
    cases h with
    | cons h t =>
      rw [keys_dq t, List.map_cons]
      cases k with
      | inl i => rw [show kD (.inl i) = .int i from rfl] at h; rw [h.int_of]; rfl
      | inr x => rw [show kD (.inr x) = .str x from rfl] at h; rw [h.str_of]; rfl
theorem dq_keys : ∀ ks : List Key, DqAll K B (ks.map kV) (ks.map kD)
  | [] => .nil
  | .inl i :: ks => .cons (.int i) (dq_keys ks)
  | .inr x :: ks => .cons (.str x) (dq_keys ks)
theorem fl_of {v : V} {ks : List Key} (h : Dq K B v (flTup ks)) : ∃ t, v = V.ref t ∧ SqT K B t (ks.map kV) := by
  obtain ⟨t, us, rfl, h1, h2⟩ := h.tup_of
  rw [keys_dq h2] at h1
  exact ⟨t, rfl, h1⟩
theorem fls_of : ∀ {ps : List (List Key)} {xs : List V}, DqAll K B xs (ps.map flTup) → xs.length = ps.length ∧ ∀ z ∈ xs.zip ps, ∃ t, z.1 = V.ref t ∧ SqT K B t (z.2.map kV) := by
  intro ps
  induction ps with
  | nil =>
    intro xs h
    cases h
    exact ⟨rfl, fun z h => nomatch h⟩
  | cons p ps ih =>
    intro xs h
    rw [List.map_cons] at h
    cases h with
    | cons h t =>
      obtain ⟨a, b⟩ := ih t
      refine ⟨by rw [List.length_cons, List.length_cons, a], fun z hz => ?_⟩
      rw [List.zip_cons_cons] at hz
      rcases List.mem_cons.mp hz with rfl | hz
      · exact fl_of h
      · exact b z hz
theorem kD_tow {ks : List Key} (h : ks ≠ []) : towerish (ks.map kD) = false := by
  cases ks with
  | nil => exact absurd rfl h
  | cons k ks =>
    have : pairI (kD k) = false := by cases k <;> rfl
    show (pairI (kD k) && (ks.map kD).all pairI) = false
    rw [this]
    rfl
theorem dpa_flats : ∀ {zs : List (V × List Key)}, (∀ z ∈ zs, (∃ t, z.1 = V.ref t ∧ SqT K B t (z.2.map kV)) ∧ z.2 ≠ []) → DqAll K B (zs.map (·.1)) ((zs.map (·.2)).map flTup) := by
  intro zs
  induction zs with
  | nil => exact fun _ => .nil
  | cons z zs ih =>
    intro h
    obtain ⟨⟨t, e, s⟩, hne⟩ := h z List.mem_cons_self
    have h1 : Dq K B z.1 (flTup z.2) := by
      rw [e]
      exact .tupN s (dq_keys z.2) (kD_tow hne)
    rw [List.map_cons, List.map_cons, List.map_cons]
    exact .cons h1 (ih fun x hx => h x (List.mem_cons_of_mem _ hx))
theorem zip_snd_mem : ∀ {xs : List V} {ps : List (List Key)} {z : V × List Key}, z ∈ xs.zip ps → z.2 ∈ ps := fun h => (List.of_mem_zip h).2
theorem rf_sortedV (ds z : List PyData) (h : sortedVD ds = some z) : RCDL K (rSortedV K) ds B z := by
  unfold sortedVD at h
  split at h
  · cases h
    exact fun vs H1 x hd Q q => .inl (rf_sortedU ds _ (by assumption) vs H1 x hd Q q)
  · split at h
    · split at h
      case h_2 => cases h
      rename_i kss h1
      split at h
      case isFalse => cases h
      rename_i hk
      cases h
      obtain ⟨κ, hκ⟩ := kindsOk_of hk
      rw [flatsOf_some h1]
      intro vs H1 x hd Q q
      cases hd with
      | cons hv hd =>
        cases hd
        obtain ⟨a, xs, rfl, k1, k2⟩ := hv.lst_of
        obtain ⟨l, hz⟩ := fls_of k2
        refine .inr ⟨a, xs, kss, κ, ⟨rfl, ex_l x k1, l⟩, fun z hm => ?_, fun zs p hm hp h0 => ?_⟩
        · obtain ⟨t, e, s⟩ := hz z hm
          exact ⟨⟨t, e, ex_t x s⟩, hκ _ (zip_snd_mem hm)⟩
        · have e : zs.map (·.2) = sortF kss := by
            refine sortF_of ?_ ?_
            · rw [List.pairwise_map]
              exact hp.imp fun h => by
                unfold leF
                rw [h]
                rfl
            · have := hm.map (·.2)
              rw [List.map_snd_zip (by omega)] at this
              exact this
          have dz := dpa_flats (K := K) (B := B) (zs := zs) fun z hz' => ⟨hz z (hm.mem_iff.mp hz'), fun en => by
            have := hκ _ (zip_snd_mem (hm.mem_iff.mp hz'))
            rw [en] at this
            cases this⟩
          rw [e] at dz
          exact q p _ B _ (fresh_back x h0) h0 (Gr.mut x h0) upd_same dz
    · cases h
theorem sl_sortedV (h : SA K tr fl) : SL K (tCB (rSortedV K) tr) (dCbL sortedVD fl) := sl_cb (fun B => rf_sortedV) h
end
end Fd
end

section
set_option Elab.async false
set_option linter.all false
set_option maxRecDepth 100000
set_option maxHeartbeats 1000000
/-! Base h: t < u of two flat tuples of ints and texts of the same kinds: ltVD. -/
variable [Fd.Uw]
namespace Fd
open PySem PySem.Spec PyProof.Rows L2 Evl Tb
def rLtF (K : PySem.W.Frag) : R2 := fun x y H Q => ∃ (a b : Addr) (ks ls : List Key), x = .ref a ∧ y = .ref b ∧ SqT K H a (ks.map kV) ∧ SqT K H b (ls.map kV) ∧ Flx.kinds ks = Flx.kinds ls ∧ Q (.bl (Flx.lexK ks ls)) H
theorem lexAt_K : ∀ (n i : Nat) (ks ls : List Key), ks.length = i + n → ls.length = i + n →
    Ob.lexAt (fun j => decide (ks[j]? = ls[j]?)) (fun j => match ks[j]?, ls[j]? with | some a, some b => Flx.ltK a b | _, _ => false) false i n = Flx.lexK (ks.drop i) (ls.drop i)
  | 0, i, ks, ls, h1, h2 => by
    rw [List.drop_of_length_le (by omega), List.drop_of_length_le (by omega)]
    rfl
  | n + 1, i, ks, ls, h1, h2 => by
    have ih := lexAt_K n (i + 1) ks ls (by omega) (by omega)
    have l1 : i < ks.length := by omega
    have l2 : i < ls.length := by omega
    rw [Ob.lexAt_succ, ih, List.drop_eq_getElem_cons l1, List.drop_eq_getElem_cons l2, Flx.lexK, List.getElem?_eq_getElem l1, List.getElem?_eq_getElem l2]
    by_cases c : ks[i] = ls[i]
    · rw [if_pos (by rw [c]; exact decide_eq_true rfl), if_pos c]
    · rw [if_neg (fun z => c (Option.some.inj (of_decide_eq_true z))), if_neg c]
theorem kinds_at {ks ls : List Key} (h : Flx.kinds ks = Flx.kinds ls) {j : Nat} {a b : Key} (h1 : ks[j]? = some a) (h2 : ls[j]? = some b) : a.isLeft = b.isLeft := by
  have := congrArg (·[j]?) h
  simp only [Flx.kinds, List.getElem?_map, h1, h2] at this
  exact Option.some.inj this
theorem op_ltF {X : Cx} (hu : X.A.units < cLine) : OpR X (compareOp .Lt) (rLtF X.K) := by
  intro pins s σ H x y v u Q I rx ry h
  obtain ⟨a, b, ks, ls, rfl, rfl, ha, hb, hk, q⟩ := h
  cases rx
  cases ry
  obtain ⟨its, r1, p1, _⟩ := I.tuple ha
  obtain ⟨its2, r2, p2, _⟩ := I.tuple hb
  have i1 := leaf_vals r1
  have i2 := leaf_vals r2
  have e1 : its.length = ks.length := by simpa using congrArg List.length i1
  have e2 : its2.length = ls.length := by simpa using congrArg List.length i2
  have el : ks.length = ls.length := by simpa [Flx.kinds] using congrArg List.length hk
  have at1 : ∀ j (h1 : j < its.toArray.size), ∃ k, ks[j]? = some k ∧ Flx.leafV its.toArray[j] = some k := fun j h1 => by
    have h1' : j < its.length := by simpa using h1
    refine ⟨ks[j]'(by omega), List.getElem?_eq_getElem (by omega), ?_⟩
    have := congrArg (·[j]?) i1
    simp only [List.getElem?_map, List.getElem?_eq_getElem h1', List.getElem?_eq_getElem (show j < ks.length by omega), Option.map_some] at this
    simpa using this
  have at2 : ∀ j (h1 : j < its2.toArray.size), ∃ k, ls[j]? = some k ∧ Flx.leafV its2.toArray[j] = some k := fun j h1 => by
    have h1' : j < its2.length := by simpa using h1
    refine ⟨ls[j]'(by omega), List.getElem?_eq_getElem (by omega), ?_⟩
    have := congrArg (·[j]?) i2
    simp only [List.getElem?_map, List.getElem?_eq_getElem h1', List.getElem?_eq_getElem (show j < ls.length by omega), Option.map_some] at this
    simpa using this
  have R := Ob.RcOp.tuples_lt (A := X.A) (s := s) (e := fun j => decide (ks[j]? = ls[j]?)) (r := fun j => match ks[j]?, ls[j]? with | some a, some b => Flx.ltK a b | _, _ => false) p1 p2 hu (fun j h1 h2 => by
    obtain ⟨k, k1, k2⟩ := at1 j h1
    obtain ⟨l, l1, l2⟩ := at2 j h2
    have kk := kinds_at hk k1 l1
    generalize its.toArray[j] = x at k2 ⊢
    generalize its2.toArray[j] = y at l2 ⊢
    show SeqAt.EqAt _ _ _ _ (decide (ks[j]? = ls[j]?))
    rw [k1, l1]
    cases k with
    | inl i =>
      cases l with
      | inr z => cases kk
      | inl i' =>
        obtain ⟨t, rfl⟩ := Flx.leafV_int k2
        obtain ⟨t', rfl⟩ := Flx.leafV_int l2
        have z : (i == i') = decide (some (Sum.inl i : Key) = some (Sum.inl i')) := by
          by_cases q : i = i'
          · simp [q]
          · simp [q]
        rw [← z]
        exact SeqAt.EqAt.int_int _ _ _ _
    | inr i =>
      cases l with
      | inl z => cases kk
      | inr i' =>
        obtain ⟨t, rfl⟩ := Flx.leafV_str k2
        obtain ⟨t', rfl⟩ := Flx.leafV_str l2
        have z : (i == i') = decide (some (Sum.inr i : Key) = some (Sum.inr i')) := by
          by_cases q : i = i'
          · simp [q]
          · simp [q]
        rw [← z]
        exact SeqAt.EqAt.str_str _ _ _ _) (fun j h1 h2 _ => by
    obtain ⟨k, k1, k2⟩ := at1 j h1
    obtain ⟨l, l1, l2⟩ := at2 j h2
    have kk := kinds_at hk k1 l1
    generalize its.toArray[j] = x at k2 ⊢
    generalize its2.toArray[j] = y at l2 ⊢
    show Ob.RcOp _ _ _ _ _ (match ks[j]?, ls[j]? with | some a, some b => Flx.ltK a b | _, _ => false)
    rw [k1, l1]
    cases k with
    | inl i =>
      cases l with
      | inr z => cases kk
      | inl i' =>
        obtain ⟨t, rfl⟩ := Flx.leafV_int k2
        obtain ⟨t', rfl⟩ := Flx.leafV_int l2
        exact Ob.RcOp.lt_int _ _ _ _
    | inr i =>
      cases l with
      | inl z => cases kk
      | inr i' =>
        obtain ⟨t, rfl⟩ := Flx.leafV_str k2
        obtain ⟨t', rfl⟩ := Flx.leafV_str l2
        exact fun prog w E Q h => (PyProof.Rows.lt_str h : wpAny (model prog w) _ (compareOp .Lt (.str i t) (.str i' t')) Q E _))
  rw [List.size_toArray, List.size_toArray, e1, e2, el, Nat.min_self, decide_eq_false (Nat.lt_irrefl _), lexAt_K ls.length 0 ks ls (by omega) (by omega), List.drop_zero, List.drop_zero] at R
  have z : wpAny (model X.prog X.w) X.A (compareOp .Lt (.ref a) (.ref b)) (EP X pins σ Q) X.xe s := R X.prog X.w X.xe (EP X pins σ Q) ⟨.bl _, H, I, rfl, q⟩
  exact z
def rLtV (K : PySem.W.Frag) : R2 := fun x y H Q => rLtU x y H Q ∨ rLtF K x y H Q
theorem ok_ltV {X : Cx} {K : PySem.W.Frag} (h : X.K = K) (hu : X.A.units + 64 < cLine) : OpR X (compareOp .Lt) (rLtV K) := by
  subst h
  intro pins s σ H x y v u Q I rx ry h
  rcases h with h | h
  · exact op_ltU pins s σ H x y v u Q I rx ry h
  · exact op_ltF (by omega) pins s σ H x y v u Q I rx ry h
def ltVD (x y : PyData) : Option PyData := match ltD x y with
  | some z => some z
  | none => match x, y with
    | .tuple ds, .tuple es => match keysI ds, keysI es with
      | some ks, some ls => if Flx.kinds ks = Flx.kinds ls then some (.bool (Flx.lexK ks ls)) else none
      | _, _ => none
    | _, _ => none
section
variable {K : PySem.W.Frag} {B : Hp} {ta tb : TE} {f g : Dn PyData}
theorem rf_ltV (x y z : PyData) (h : ltVD x y = some z) : RD K (rLtV K) x y B z := by
  unfold ltVD at h
  split at h
  · rename_i z' h1
    cases h
    intro v w H1 e hv hw Q q
    exact .inl (rf_lt x y _ h1 v w H1 e hv hw Q q)
  · split at h
    · rename_i ds es _
      split at h
      case h_2 => cases h
      rename_i ks ls h1 h2
      split at h
      case isFalse => cases h
      rename_i hk
      cases h
      rw [keysI_some h1, keysI_some h2]
      intro v w H1 e hv hw Q q
      obtain ⟨a, rfl, s1⟩ := fl_of hv
      obtain ⟨b, rfl, s2⟩ := fl_of hw
      exact .inr ⟨a, b, ks, ls, rfl, rfl, ex_t e s1, ex_t e s2, hk, q _ _ _ (Gr.refl e) (.bl _)⟩
    · cases h
theorem se_ltV (ha : SE K ta f) (hb : SE K tb g) : SE K (tOp (rLtV K) ta tb) (dOp ltVD f g) := se_op (fun B => rf_ltV) ha hb
end
end Fd
end

section
set_option Elab.async false
set_option linter.all false
set_option maxRecDepth 100000
set_option maxHeartbeats 1000000
/-! Base i: str of an int or None, the signs of a text, len(set(a list of ints)). -/
variable [Fd.Uw]
namespace Fd
open PySem PySem.Spec PyProof.Rows L2 Evl Tb
theorem bb_set : bootBuiltins "set" = some (.type "set") := by decide +kernel
/-! ### str(x) -/
def rStrV : List V → Hp → VK → Prop := fun xs H Q => (∃ i, xs = [V.int i] ∧ i.natAbs.log2 < 1920 ∧ Q (.str (toString i)) H) ∨ (xs = [.non] ∧ Q (.str "None") H) ∨ ∃ x, xs = [V.str x] ∧ Q (.str x) H
theorem ck_strV {X : Cx} : CallR X (.type "str") rStrV := by
  intro pins s σ H xs us Q I r h
  rcases h with h | h | h
  · exact call_str_int pins s σ H xs us Q I r h
  · obtain ⟨rfl, q⟩ := h
    obtain ⟨u, rfl, ru⟩ := vals1 r
    cases ru
    exact PySem.P.str_of_none ⟨.str _, H, I.tok _, ⟨_, rfl⟩, q⟩
  · exact SkE.call_str_str pins s σ H xs us Q I r h
def strD : List PyData → Option PyData
  | [.int i] => if i.natAbs.log2 < 1920 then some (.str (toString i)) else none
  | [.none] => some (.str "None")
  | [.str x] => some (.str x)
  | _ => none
section
variable {K : PySem.W.Frag} {B : Hp} {te : TE} {f : Dn PyData} {ta : TA} {fl : Dn (List PyData)}
theorem rf_strV (ds : List PyData) (z : PyData) (h : strD ds = some z) : RCD K rStrV ds B z := by
  unfold strD at h
  split at h
  · split at h
    · rename_i hc
      cases h
      exact rcd1 fun v H1 x hv Q q => .inl ⟨_, by rw [hv.int_of], hc, q _ B H1 (.refl x) (.str _)⟩
    · cases h
  · cases h
    exact rcd1 fun v H1 x hv Q q => .inr (.inl ⟨by rw [hv.non_of], q _ B H1 (.refl x) (.str _)⟩)
  · cases h
    exact rcd1 fun v H1 x hv Q q => .inr (.inr ⟨_, by rw [hv.str_of], q _ B H1 (.refl x) (.str _)⟩)
  · cases h
theorem se_strV (h : SA K ta fl) : SE K (tCB rStrV ta) (dCb strD fl) := se_cb (fun B => rf_strV) h
/-! ### for c in text -/
def charsD (x : Str) : List PyData := x.cps.toList.map fun c => .str ⟨#[c]⟩
def dChars (f : Dn PyData) : Dn (List PyData) := dBind f fun x => match x with
  | .str s => dK (charsD s)
  | _ => fun _ => none
theorem si_chars (h : SE K te f) : SI K (iStr te) (dChars f) := fun W hW σ e B H a ds e' h' R q => by
  obtain ⟨d, e1, h1, h2⟩ := dBind_some h'
  split at h2
  case h_2 => cases h2
  rename_i x
  obtain ⟨rfl, rfl⟩ := dK_some h2
  refine h W hW σ e B H a _ e' h1 _ fun v B1 H1 a1 g1 d1 => ?_
  have hv := d1.str_of
  subst hv
  refine ⟨x, rfl, q _ B1 H1 a1 g1 ?_⟩
  have hl : (charsD x).length = x.cps.size := by
    unfold charsD
    rw [List.length_map, Array.length_toList]
  refine ⟨fun i B2 H2 y z hi => ?_, fun B2 H2 y z => ?_, fun i d B2 H2 w H3 y z hd hy => ?_⟩
  · show i < x.cps.size
    omega
  · show x.cps.size ≤ _
    omega
  · obtain ⟨rfl, c, hc, rfl⟩ := hy
    refine ⟨B2, .refl z, ?_⟩
    unfold charsD at hd
    rw [List.getElem?_map, Array.getElem?_toList, hc] at hd
    cases hd
    exact .str _
end
end Fd
/-! ### len(set(ints)) -/
namespace L2
open PySem PySem.Spec PyProof.Rows Evl
def fmI (ns : List Int) : List Int := firstMet (fun i => ns.getD i 0) ns.length
def rSetI (K : PySem.W.Frag) : List V → Hp → VK → Prop := fun xs H Q => ∃ a ns, xs = [V.ref a] ∧ SqL K H a (ns.map V.int) ∧ ns.length ≤ 1000 ∧ ∀ p, H p = none → Q (.ref p) (upd H p (.set (fun k => (fmI ns).any (· == k)) (fmI ns).length))
theorem ck_setI {X : Cx} {K : PySem.W.Frag} (h : X.K = K) (hc : X.calm = true) : CallR X (.type "set") (rSetI K) := by
  subst h
  intro pins s σ H xs us Q I r h
  obtain ⟨a, ns, rfl, hs, hz, q⟩ := h
  obtain ⟨u, rfl, ru⟩ := vals1 r
  cases ru
  obtain ⟨its, rv, pl, _⟩ := I.list hs
  have hi : IntsAre its ns := Vals.ints rv
  have hl : its.toArray.size = ns.length := by rw [List.size_toArray]; exact hi.length
  refine call_set_list (ns := ns) (I.ok.hd hc) pl.isList (by simpa using hi) (by
    have : (1000 : Nat) + 1 < scanBound := by decide
    rw [hl]
    omega) fun h' tk hS k => ?_
  rw [hl] at hS
  exact ⟨.ref s.heap.objs.size, _, I.laid (t' := tk) (fun b o y => k b o (Heap.lt_size y) y) (Nat.le_refl _) (show ObjOk X.prog X.w _ _ _ (.set _ _) from hS), rfl, q _ (I.hok.fresh (Nat.le_refl _))⟩
def rLenS : List V → Hp → VK → Prop := fun xs H Q => ∃ p S n, xs = [V.ref p] ∧ H p = some (.set S n) ∧ Q (.int n) H
theorem ck_lenS {X : Cx} : CallR X (.builtin "len") rLenS := by
  intro pins s σ H xs us Q I r h
  obtain ⟨p, S, n, rfl, hp, q⟩ := h
  obtain ⟨u, rfl, ru⟩ := vals1 r
  cases ru
  obtain ⟨o, es, ep, t, ho, hex, hd, _, _, hb, hf, hn⟩ := (show ObjOk X.prog X.w H s.heap p (.set S n) from I.hok p _ hp)
  subst hn
  refine call_len_set ho hex hd hf ?_ ⟨.int _, H, I.tok _, ⟨_, rfl⟩, q⟩
  have := fits_of_scanBound hb
  have := sizeLine_eq
  omega
end L2
namespace Fd
open PySem PySem.Spec PyProof.Rows L2 Evl Tb
/-- len(set(ints)): how many are met for the first time -/
def lenSetD : List PyData → Option PyData
  | [.list ds] => match intsOf ds with
    | some ns => if ns.length ≤ 1000 then some (.int ((fmI ns).length : Nat)) else none
    | none => none
  | _ => none
section
variable {K : PySem.W.Frag} {ta : TA} {fl : Dn (List PyData)}
theorem ints_dq {B : Hp} : ∀ {ns : List Int} {us : List V}, DqAll K B us (ns.map .int) → us = ns.map V.int
  | [], _, .nil => rfl
  | n :: ns, _, .cons h t => by
    rw [h.int_of, ints_dq t]
    rfl
theorem se_lenSet (h : SA K ta fl) : SE K (tCB rLenS (tCons (tCB (rSetI K) ta) tNil)) (dCb lenSetD fl) := fun W hW σ e B H a d e' h' Q q => by
  obtain ⟨ds, e1, h1, h2⟩ := dBind_some h'
  obtain ⟨h3, rfl⟩ := dLift_some h2
  unfold lenSetD at h3
  split at h3
  case h_2 => cases h3
  rename_i zs
  split at h3
  case h_2 => cases h3
  rename_i ns hns
  split at h3
  case isFalse => cases h3
  rename_i hl
  cases h3
  rw [intsOf_some hns] at h1
  refine h W hW σ e B H a _ e' h1 _ fun vs B1 H1 a1 g1 d1 => ?_
  cases d1 with
  | cons hv hr =>
    cases hr
    obtain ⟨b, us, rfl, k1, k2⟩ := hv.lst_of
    rw [ints_dq k2] at k1
    refine ⟨b, ns, rfl, ex_l a1.ex k1, hl, fun p hp => ⟨p, _, _, rfl, upd_same, ?_⟩⟩
    have gr : Gr B1 H1 B1 (upd H1 p (.set (fun k => (fmI ns).any (· == k)) (fmI ns).length)) := Gr.mut a1.ex hp
    exact q _ B1 _ (a1.gr gr) (g1.trans (gx_gr gr)) (.int _)
end
end Fd
end

section
set_option Elab.async false
set_option linter.all false
set_option maxRecDepth 100000
set_option maxHeartbeats 1000000
/-! Base i: {k: v for ..} whose keys are flat tuples. The block's loop over any way to store (S); the library's pe_dc stores ints and texts only. -/
variable [Fd.Uw]
namespace L2
open PySem PySem.Spec PyProof.Rows Evl
open Fd (OwnT OwnD)
/-- how a pair is stored in the dict at D: what S tells is what the machine's dictSet does -/
def Stores (K : PySem.W.Frag) (S : Addr → V → V → Hp → (Hp → Prop) → Prop) : Prop := ∀ (X : Cx) (pins : List (Addr × Obj)) (σ : St) (H : Hp) (s : Shared) (D : Addr) (y z : V) (u r : Value) (Nx : Hp → Prop) (E : Value → Shared → Prop) (Q : Unit → Shared → Prop),
  X.K = K → X.A.units + 64 < cLine → Inv X pins σ H s → RelV y u → RelV z r → S D y z H Nx → (∀ s' H', Inv X pins σ H' s' → Nx H' → Q () s') → wpAny (model X.prog X.w) X.A (dictSet D u r) Q E s
def tDcS (S : Addr → V → V → Hp → (Hp → Prop) → Prop) (wi : TI) (g : TG) (tt : TT) (tk tv : TE) (vs : List Nat) : TE := fun σ H Q => wi σ H fun J H1 => ∀ D ep, H1 D = none → (D == sysModules) = false → ∃ W : Nat → Nat → Hp → Prop, (∃ m, W 0 m (upd H1 D (DicO D #[] ep))) ∧ ∀ i m H, W i m H →
  (J.stop i H ∧ Q (.ref D) H) ∨ (J.go i H ∧ ∃ Nx : Hp → Prop, (∀ H', Nx H' → ∃ m', m' < m ∧ W (i + 1) m' H') ∧ ∀ x H', J.yld i H x H' → g x (wipe σ vs) H' fun σ2 H2 => wipe σ2 vs = wipe σ vs ∧ tt σ2 H2 fun b H3 =>
    if b = true then tk σ2 H3 fun y H4 => tv σ2 H4 fun z H5 => S D y z H5 Nx else Nx H3)
section
variable {X : Cx}
theorem pe_dcS {S : Addr → V → V → Hp → (Hp → Prop) → Prop} (hS : Stores X.K S) (hu : X.A.units + 64 < cLine) {kx vx tg iter : Expr} {ifs : List Expr} {scope : Scope} {own : List (Str × Nat)} {pos : Pos} {wi : TI} {g : TG} {tt : TT} {tk tv : TE} (hc : X.calm = true) (hN : X.N.Nodup) (hi : PI X tg iter wi) (ok : BlkOk X.N X.env.scope scope own)
    (hg : ∀ (s : Shared) (H : Hp) (C : Addr) (cl : List (Str × Addr)) (fp : List Addr), PG (X.blk s H scope (compEnvC scope cl C X.env) fp) tg g) (ht : ∀ (s : Shared) (H : Hp) (C : Addr) (cl : List (Str × Addr)) (fp : List Addr), PTs (X.blk s H scope (compEnvC scope cl C X.env) fp) ifs tt)
    (hk : ∀ (s : Shared) (H : Hp) (C : Addr) (cl : List (Str × Addr)) (fp : List Addr), PE (X.blk s H scope (compEnvC scope cl C X.env) fp) kx tk)
    (he : ∀ (s : Shared) (H : Hp) (C : Addr) (cl : List (Str × Addr)) (fp : List Addr), PE (X.blk s H scope (compEnvC scope cl C X.env) fp) vx tv) (hs : ∀ x, foldedSetIterable iter X.env x = pure x := by intro _; rfl) :
    PE X (.DictComp kx vx [⟨tg, iter, ifs, 0⟩] scope pos) (tDcS S wi g tt tk tv (own.map (·.2))) := by
  refine ⟨fun pins s σ H Q I h => ?_⟩
  rw [arm_eval_DictComp]
  have hfree : ∀ y ∈ scope.names, y.2 = .free → ∃ c, X.env.cells.lookup y.1 = some c := fun y hy e => (ok.free y hy e).elim (fun k => I.ok.has _ (.inl k)) fun k => I.ok.has _ (.inr k)
  refine wpAny_comprehension_free (use := none) rfl hs (closure_ok hfree) ok.kind (fun y hy e => by rw [ok.uniq y hy, e]) (thn (hi.run pins s σ H _ I h) fun xv s1 hx => thn hx fun itv s2 ⟨it, fp, tn, J, H2, e, I2, T, st2, f2, q⟩ => ?_)
  subst e
  refine wpAny_newObj_type (newEnv_comp ?_)
  generalize hD : s2.heap.objs.size = D
  have hDn : H2 D = none := I2.hok.fresh (Nat.le_of_eq hD)
  generalize hs3 : ({ s2 with heap := s2.heap.push { cls := .type "dict", data := .dict #[] } } : Shared) = s3
  have h3 : s3.heap = s2.heap.push { cls := .type "dict", data := .dict #[] } := by rw [← hs3]
  -- the new dict, exact
  obtain ⟨ep, hm, I3⟩ : ∃ ep, (D == sysModules) = false ∧ Inv X pins σ (upd H2 D (DicO D #[] ep)) s3 := by
    have J0 : Inv X pins σ (upd H2 D (.dK [])) s3 := by
      rw [← hs3]
      refine I2.laid (t' := s2.toks) (fun b o e => Heap.get?_push_of_some _ e) (Nat.le_of_eq hD) ?_
      rw [← hD]
      exact dk_empty s2.heap I2.big
    obtain ⟨_, hm, vs, rel, dd⟩ := dk_of J0.hok upd_same
    cases rel
    obtain ⟨es, ep, rw', hz, _⟩ := dd.raw
    have e0 : es = #[] := Array.eq_empty_of_size_eq_zero (by simpa using hz)
    subst e0
    have ho : ∃ o, s3.heap.get? D = some o := let ⟨o, z, _⟩ := rw'; ⟨o, z⟩
    have J1 := J0.write (x := D) (e := D) (o := DicO D #[] ep) (h' := s3.heap) (t' := s3.toks) (by rw [upd_same]; exact True.intro) (.inl rfl) (fun _ _ _ z => z) ho ⟨rw', ho, fun h1 h2 x e => x.at e⟩
    rw [upd_upd] at J1
    exact ⟨ep, hm, J1⟩
  obtain ⟨W, ⟨m0, w0⟩, turn⟩ := q D ep hDn hm
  have sz : ∀ b ∈ fp, b < s2.heap.objs.size := fun b hb => let ⟨o, e, _⟩ := T.obj _ _ st2 b hb; Heap.lt_size e
  have f3 : ∀ b ∈ fp, FpOk X pins (upd H2 D (DicO D #[] ep)) b ∧ b < s3.heap.objs.size := fun b hb => by
    refine ⟨⟨?_, (f2 b hb).2⟩, by rw [h3, Heap.size_push]; exact Nat.lt_succ_of_lt (sz b hb)⟩
    rw [upd_ne (by rw [← hD]; exact Nat.ne_of_lt (sz b hb))]
    exact (f2 b hb).1
  have st3 : tn 0 s3.heap := T.keep _ _ _ st2 fun b _ o e => by rw [h3]; exact Heap.get?_push_of_some _ e
  have I4 := block_start I3 ok hN f3
  generalize hcl : cellsFrom (s3.heap.objs.size + 1) scope.names (cloFrom X.env.cells scope.names []) = cl at I4
  have pg := hg s3 (upd H2 D (DicO D #[] ep)) s3.heap.objs.size cl fp
  have pt := ht s3 (upd H2 D (DicO D #[] ep)) s3.heap.objs.size cl fp
  have pk := hk s3 (upd H2 D (DicO D #[] ep)) s3.heap.objs.size cl fp
  have pe := he s3 (upd H2 D (DicO D #[] ep)) s3.heap.objs.size cl fp
  show codeAny _ _ (.compStart (.DictComp kx vx [⟨tg, iter, ifs, 0⟩] scope pos) 0 (.ref it) (.ref D) (compEnvC scope cl s3.heap.objs.size X.env)) (compPost (model X.prog X.w) X.A X.xe none (EP X pins σ Q) (.ref D) s3.heap.objs.size) { s3 with heap := pushCells (s3.heap.push { cls := .type "dict", data := .dict #[] }) scope.names }
  have nfp : ∀ b ∈ fp, (upd H2 D (DicO D #[] ep)) b = none := fun b hb => (f3 b hb).1.1
  generalize hce : compEnvC scope cl s3.heap.objs.size X.env = ce at I4 pg pt pk pe ⊢
  have cL : ce.locals = s3.heap.objs.size := by subst hce; rfl
  generalize hH3 : upd H2 D (DicO D #[] ep) = H3 at I3 I4 pg pt pk pe w0 nfp f3
  generalize hs4 : ({ s3 with heap := pushCells (s3.heap.push { cls := .type "dict", data := .dict #[] }) scope.names } : Shared) = s4 at I4 ⊢
  have st4 : tn 0 s4.heap := T.keep _ _ _ st3 fun b _ o e => by rw [← hs4]; exact pushCells_keeps _ _ _ _ (Heap.get?_push_of_some _ e)
  have stat : ∀ {σ' : St} {H' : Hp} {s' : Shared}, Inv (X.blk s3 H3 scope ce fp) [] σ' H' s' → (∀ b ∈ fp, H' b = none) → ∀ b ∈ fp, FpOk (X.blk s3 H3 scope ce fp) [] H' b := fun {σ' H' s'} I' hn b hb =>
    ⟨hn b hb, (I'.ok.exf b hb).1, I'.ok.exfs b hb, .inl hb, fun x c e => (I'.ok.exf b hb).2 x c e, fun p hp => absurd (show p ∈ ([] : List (Addr × Obj)) ++ [] from hp) (by simp)⟩
  have loop : codeAny (model X.prog X.w) X.A (.compLoop (.DictComp kx vx [⟨tg, iter, ifs, 0⟩] scope pos) 0 (.ref it) (.ref D) ce) (compPost (model X.prog X.w) X.A X.xe none (EP X pins σ Q) (.ref D) s3.heap.objs.size) s4 := by
    refine compLoop_anyD (fun n s' => ∃ i H', Inv (X.blk s3 H3 scope ce fp) [] (wipe σ (own.map (·.2))) H' s' ∧ tn i s'.heap ∧ (∀ b ∈ fp, H' b = none) ∧ W i n H') ?_ m0 ⟨0, H3, I4, st4, nfp, w0⟩
    rintro n s5 ⟨i, H5, I5, st5, n5, w5⟩
    rcases turn i n H5 w5 with ⟨stop, qq⟩ | ⟨go, Nx, hNx, step⟩
    · -- no more items: back in the def's own context
      refine thnF (T.done (X.blk s3 H3 scope ce fp) rfl rfl rfl hc i [] s5 _ H5 (fun _ _ => False) I5 (stat I5 n5) st5 stop) fun r s6 ⟨hr, I6⟩ => ?_
      subst hr
      have I7 : Inv X pins σ H5 s6 := I3.call' (ch := fp) I6.os I6.base I6.hok I6.bare fun b hb => ⟨(f3 b hb).1.2.2.2.1, (f3 b hb).1.2.1, (f3 b hb).1.2.2.2.2.1, (f3 b hb).1.2.2.2.2.2⟩
      have nC : H5 s3.heap.objs.size = none := by
        have z : H5 ce.locals = none := I6.free
        rwa [cL] at z
      obtain ⟨m, hn, _⟩ := I6.loc
      have hn : s6.heap.Ns ce.locals m := hn
      rw [cL] at hn
      obtain ⟨g0, g1, g2, g3, g4, g5⟩ := I3.fpOk (Nat.le_refl _) nC
      exact ⟨m, hn, fun h'' sb => ⟨.ref D, H5, I7.turned (t' := s6.toks) (fun b o hb e => (sb.2 b hb).trans e) g0 g1 g3 g4 g5, rfl, qq⟩⟩
    · refine thnF (T.item (X.blk s3 H3 scope ce fp) rfl rfl rfl hc i [] s5 _ H5 (fun _ _ => False) I5 (stat I5 n5) st5 go) fun r s6 ⟨u, hr, h6⟩ => ?_
      subst hr
      refine thnF h6 fun _ s7 ⟨x, H7, I7, r7, y7, st7, n7⟩ => ?_
      refine thnF (pg.run _ s7 _ H7 x u _ (I7.pinned (stat I7 n7) (T.obj _ _ st7)) r7 (step x H7 y7)) fun _ s8 ⟨σ8, H8, I8, hw8, q8⟩ => ?_
      refine thnF (pt.run _ s8 σ8 H8 _ I8 q8) fun b s9 ⟨H9, I9, q9⟩ => ?_
      have fin : ∀ {s' : Shared} {H' : Hp}, Inv (X.blk s3 H3 scope ce fp) ([] ++ pinsAt fp s7.heap) σ8 H' s' → Nx H' → ∃ m, m < n ∧ ∃ i H', Inv (X.blk s3 H3 scope ce fp) [] (wipe σ (own.map (·.2))) H' s' ∧ tn i s'.heap ∧ (∀ b ∈ fp, H' b = none) ∧ W i m H' := fun {s' H'} I' nx => by
        obtain ⟨m', hm', w'⟩ := hNx H' nx
        have pin' : ∀ b ∈ fp, ∀ o, s7.heap.get? b = some o → s'.heap.get? b = some o ∧ H' b = none := fun b hb o e =>
          let z := I'.pin (b, o) (List.mem_append_right _ (List.mem_append_right _ (mem_pinsAt hb e)))
          ⟨z.1, z.2.1⟩
        have hl : (wipe σ (own.map (·.2))).length = σ8.length := by rw [← hw8, wipe_length]
        refine ⟨m', hm', i + 1, H', (I'.unpinned (pins := [])).weak hl (fun j v e => ?_), T.keep _ _ _ st7 fun b hb o e => (pin' b hb o e).1, fun b hb => ?_, w'⟩
        · rw [← hw8] at e
          exact (wipe_some e).1
        · obtain ⟨o, e, _⟩ := T.obj _ _ st7 b hb
          exact (pin' b hb o e).2
      cases b with
      | false =>
        simp only [Bool.false_eq_true, if_false] at q9 ⊢
        exact fin I9 q9
      | true =>
        simp only [if_true] at q9 ⊢
        refine thnF (pk.run _ s9 σ8 H9 _ I9 q9) fun z s10 ⟨yk, H10, I10, r10, q10⟩ => ?_
        refine thnF (pe.run _ s10 σ8 H10 _ I10 q10) fun z2 s11 ⟨yv, H11, I11, r11, st⟩ => ?_
        exact hS (X.blk s3 H3 scope ce fp) _ σ8 H11 s11 D yk yv z z2 Nx _ _ rfl hu I11 r10 r11 st fun s' H' I' nx => fin I' nx
  exact codeAny_compStart_dict loop (T.self X.A 0 _ _ _ st4 loop)
end
end L2
end

section
set_option Elab.async false
set_option linter.all false
set_option maxRecDepth 100000
set_option maxHeartbeats 1000000
/-! Base i: {k: v for ..} whose keys are flat tuples, as rule and meaning: dDcT. -/
variable [Fd.Uw]
namespace L2
open PySem PySem.Spec PyProof.Rows Evl
open Fd (OwnT OwnD)
def sPutT (K : PySem.W.Frag) : Addr → V → V → Hp → (Hp → Prop) → Prop := fun D y z H Nx => ∃ (b : Addr) (k : NestedKey) (kvs : List (NestedKey × V)) (B : Hp), y = .ref b ∧ Ex B H ∧ KeyT K B b k ∧ flatNo k = true ∧ kvs.length < sizeLine ∧
  (∃ es ep, H D = some (DicO D es ep) ∧ OwnT K B es kvs) ∧ ∀ es ep, OwnT K B es (putK kvs k z) → Nx (upd H D (DicO D es ep))
theorem stores_T (K : PySem.W.Frag) : Stores K (sPutT K) := by
  intro X pins σ H s D y z u r Nx E Q hK hu I ry rz h fin
  subst hK
  obtain ⟨b, k, kvs, B, rfl, xb, kt, fl, hz, ⟨es, ep, hD, ys, h2, h3, h4, h5⟩, q⟩ := h
  cases (show u = Value.ref b from ry)
  obtain ⟨o', ho', hc', hd'⟩ := (show ObjOk X.prog X.w H s.heap D (DicO D es ep) from I.hok D _ hD).1
  refine wpAny_dictSet_heap (knd := nestedKind X.prog X.w) (by show X.A.units + 8 < cLine; omega) ((kt.mono xb).at I) ⟨o', es, ep, ho', hc', hd', h2 _ _, entR_at I xb h4, h3⟩ (fun h' dd' hs => ?_) (by rw [h4.length]; omega)
  obtain ⟨o', es, ep, h1, h2, h3, h4', h5, h6⟩ := dd'
  have rel2 : EntR X.K B (storedH ys k b r) (putK kvs k z) := h4.put (y := (k, b, r)) (x := (k, z)) ⟨⟨rfl, kt, rz⟩, fl⟩
  have hsz : es.size = (storedH ys k b r).length := by
    have := congrArg List.length h4'
    simpa using this
  exact fin _ _ (d_write (ob := DicO D es ep) I (by rw [hD]; exact True.intro) hs ⟨o', h1⟩ ⟨⟨o', h1, h2, h3⟩, ⟨o', h1⟩, fun h1 h2 x e => x.at e⟩) (q es ep ⟨_, fun P w => h4'.trans (EntR.map _ P _ w rel2), h6, rel2, hsz⟩)
end L2
namespace Fd
open PySem PySem.Spec PyProof.Rows L2 Evl Tb
def runDcT (g : PyData → En → Option En) (t : Dn Bool) (fk fv : Dn PyData) (vs : List Nat) : List PyData → List (PyData × PyData) → En → Option (List (PyData × PyData) × En)
  | [] => fun acc e => some (acc, e)
  | d :: ds => fun acc e => match g d e with
    | none => none
    | some e1 => match t e1 with
      | none => none
      | some (false, e2) => runDcT g t fk fv vs ds acc (wipeE e2 vs)
      | some (true, e2) => match fk e2 with
        | none => none
        | some (y, e3) => if tupKey y = true then (match fv e3 with
            | none => none
            | some (z, e4) => runDcT g t fk fv vs ds (putD acc y z) (wipeE e4 vs)) else none
def dDcT (it : Dn (List PyData)) (g : PyData → En → Option En) (t : Dn Bool) (fk fv : Dn PyData) (vs : List Nat) : Dn PyData := fun e => match it e with
  | none => none
  | some (ds, e1) => if (vsFree e1 vs && fewer ds) = true then (match runDcT g t fk fv vs ds [] (wipeE e1 vs) with
    | none => none
    | some (ys, e2) => some (.dict ys, restE e1 e2 vs)) else none
section
variable {K : PySem.W.Frag} {wi : TI} {g : TG} {tt : TT} {tk tv : TE} {sl vs : List Nat} {it : Dn (List PyData)} {fg : PyData → En → Option En} {ft : Dn Bool} {fk fv : Dn PyData}
/-- the dict at D holds this data, its keys flat tuples -/
def HoldT (K : PySem.W.Frag) (B H : Hp) (D : Addr) (ds : List (PyData × PyData)) : Prop := ∃ es ep kvs, H D = some (DicO D es ep) ∧ OwnT K B es kvs ∧ KN K B kvs ds
theorem HoldT.mono {B B' H H' : Hp} {D : Addr} {ds : List (PyData × PyData)} (e : Ex B B') (hH : ∀ o, H D = some o → H' D = some o) (h : HoldT K B H D ds) : HoldT K B' H' D ds := by
  obtain ⟨es, ep, kvs, h1, h2, h3⟩ := h
  exact ⟨es, ep, kvs, hH _ h1, h2.mono e, h3.mono e⟩
theorem HoldT.ne {B H : Hp} {D : Addr} {ds : List (PyData × PyData)} (h : HoldT K B H D ds) : H D ≠ none := by
  obtain ⟨es, ep, kvs, h1, _⟩ := h
  rw [h1]
  exact fun z => nomatch z
theorem se_dcT (hi : SI K wi it) (hg : SG K g sl fg) (ht : ST K tt ft) (hk : SE K tk fk) (he : SE K tv fv) (hs : ∀ i ∈ sl, i ∈ vs) : SE K (tDcS (sPutT K) wi g tt tk tv vs) (dDcT it fg ft fk fv vs) := fun W hW σ e B H a r e' h' Q q => by
  unfold dDcT at h'
  split at h'
  · cases h'
  rename_i ds e1 h1
  by_cases hc : (vsFree e1 vs && fewer ds) = true
  case neg =>
    rw [if_neg hc] at h'
    cases h'
  rw [if_pos hc] at h'
  rw [Bool.and_eq_true] at hc
  obtain ⟨hf, hlen⟩ := hc
  have hlen := of_decide_eq_true hlen
  split at h'
  · cases h'
  rename_i ys e2 h2
  cases h'
  refine hi W hW σ e B H a ds e1 h1 _ fun J B1 H1 a1 g1 wk => fun Dl ep0 hD hm => ?_
  have hpn := free_pn a1 hf
  have noD : ¬ Ow σ e1 Dl := fun z => (a1.ow z).2.1 hD
  have BD : B1 Dl = none := fresh_back a1.ex hD
  have aw : At W (L2.wipe σ vs) (wipeE e1 vs) B1 H1 := a1.wipe hpn
  refine ⟨fun i m H' => ∃ (e' : En) (B' : Hp) (accd : List (PyData × PyData)), At W (L2.wipe σ vs) e' B' H' ∧ Go (Ow σ e1) B1 H1 B' H' ∧ (∀ b, Ow (L2.wipe σ vs) e' b → Ow σ e1 b) ∧ HoldT K B' H' Dl accd ∧ B' Dl = none ∧ i ≤ ds.length ∧ m = ds.length - i ∧
    runDcT fg ft fk fv vs (ds.drop i) accd e' = some (ys, e2) ∧ accd.length ≤ i, ⟨_, _, B1, [], aw.oth BD (fun z => noD (ow_wipe z)), (Go.refl _ _ _).put hD, fun b => ow_wipe, ⟨#[], ep0, [], upd_same, ⟨[], fun _ _ => rfl, List.nodup_nil, .nil, rfl⟩, .nil⟩, BD, Nat.zero_le _, rfl, h2, Nat.le_refl _⟩, ?_⟩
  rintro i m H' ⟨e', B', accd, a', g', o', hd', hB', hi', rfl, hr', hal⟩
  by_cases hlt : i < ds.length
  · refine .inr ⟨wk.go i B' H' g'.hg a'.ex hlt, fun H2 => ∃ (e' : En) (B' : Hp) (accd : List (PyData × PyData)), At W (L2.wipe σ vs) e' B' H2 ∧ Go (Ow σ e1) B1 H1 B' H2 ∧ (∀ b, Ow (L2.wipe σ vs) e' b → Ow σ e1 b) ∧ HoldT K B' H2 Dl accd ∧ B' Dl = none ∧
      runDcT fg ft fk fv vs (ds.drop (i + 1)) accd e' = some (ys, e2) ∧ accd.length ≤ i + 1, ?_, ?_⟩
    · rintro H2 ⟨e', B', accd, p1, p2, p3, p4, p5, p7, p9⟩
      exact ⟨ds.length - (i + 1), by omega, e', B', accd, p1, p2, p3, p4, p5, hlt, rfl, p7, p9⟩
    intro x H2 hy
    obtain ⟨B2, gr, hdx⟩ := wk.yl i ds[i] B' H' x H2 g'.hg a'.ex (List.getElem?_eq_getElem hlt) hy
    rw [List.drop_eq_getElem_cons hlt] at hr'
    unfold runDcT at hr'
    have a2 := a'.gr gr
    have g2 : Go (Ow σ e1) B1 H1 B2 H2 := g'.trans (.gr gr)
    split at hr'
    · cases hr'
    rename_i e3 h3
    refine hg W hW (L2.wipe σ vs) e' B2 H2 x _ a2 hdx e3 h3 _ fun σ3 a3 o3 w3 l3 => ?_
    have sw : L2.wipe σ3 vs = L2.wipe σ vs := by
      rw [← wipe_wipe σ vs]
      exact wipe_same l3 fun j hj => w3 j fun z => hj (hs j z)
    refine ⟨sw, ?_⟩
    have o3' : ∀ b, Ow σ3 e3 b → Ow σ e1 b := fun b hb => o' b (o3 b hb)
    have no3 : ¬ Ow σ3 e3 Dl := fun z => noD (o3' _ z)
    have hl2 : HoldT K B2 H2 Dl accd := hd'.mono gr.hg fun o z => gr.h12 _ _ z
    have hB2 : B2 Dl = none := gr.sep Dl hB' hd'.ne
    split at hr'
    · cases hr'
    · rename_i e4 h4
      refine ht W hW σ3 e3 B2 H2 a3 _ e4 h4 _ fun B4 H4 a4 g4 => ?_
      rw [if_neg Bool.false_ne_true]
      have a5 := a4.wipe hpn
      rw [sw] at a5
      refine ⟨wipeE e4 vs, B4, accd, a5, g2.trans (g4.go.mono o3'), fun b hb => o3' b (g4.ow b ?_), hl2.mono g4.go.hg fun o z => g4.go.fr _ _ no3 z, g4.go.sp Dl no3 hB2 hl2.ne, hr', by omega⟩
      rw [← sw] at hb
      exact ow_wipe hb
    · rename_i e4 h4
      refine ht W hW σ3 e3 B2 H2 a3 _ e4 h4 _ fun B4 H4 a4 g4 => ?_
      rw [if_pos rfl]
      split at hr'
      · cases hr'
      rename_i y e5 h5
      split at hr'
      case isFalse => cases hr'
      rename_i hkk
      split at hr'
      · cases hr'
      rename_i z e6 h6
      have hl4 := hl2.mono g4.go.hg fun o z => g4.go.fr _ _ no3 z
      have hB4 := g4.go.sp Dl no3 hB2 hl2.ne
      have no4 : ¬ Ow σ3 e4 Dl := fun z => no3 (g4.ow _ z)
      refine hk W hW σ3 e4 B4 H4 a4 y e5 h5 _ fun w B5 H5 a5 g5 d5 => ?_
      have hl5 := hl4.mono g5.go.hg fun o z => g5.go.fr _ _ no4 z
      have hB5 := g5.go.sp Dl no4 hB4 hl4.ne
      have no5 : ¬ Ow σ3 e5 Dl := fun z => no4 (g5.ow _ z)
      refine he W hW σ3 e5 B5 H5 a5 z e6 h6 _ fun v B6 H6 a6 g6 d6 => ?_
      have hl6 := hl5.mono g6.go.hg fun o z => g6.go.fr _ _ no5 z
      have hB6 := g6.go.sp Dl no5 hB5 hl5.ne
      have no6 : ¬ Ow σ3 e6 Dl := fun z => no5 (g6.ow _ z)
      obtain ⟨b, nk, rfl, hnk, kt, fl⟩ := tup_val d5 hkk
      obtain ⟨es, ep, kvs, m1, m2, m3⟩ := hl6
      have ml := m3.length
      refine ⟨b, nk, kvs, B6, rfl, a6.ex, kt.mono g6.go.hg, fl, sz_lt (by omega), ⟨es, ep, m1, m2⟩, fun es' ep' ho => ?_⟩
      have a7 := (a6.oth (o := DicO Dl es' ep') hB6 no6).wipe hpn
      rw [sw] at a7
      refine ⟨wipeE e6 vs, B6, putD accd y z, a7, Go.put (((g2.trans (g4.go.mono o3')).trans (g5.go.mono fun b hb => o3' b (g4.ow b hb))).trans (g6.go.mono fun b hb => o3' b (g4.ow b (g5.ow b hb)))) hD, fun b hb => o3' b (g4.ow b (g5.ow b (g6.ow b ?_))), ⟨es', ep', _, upd_same, ho, m3.put hnk d6⟩, hB6, hr', ?_⟩
      · rw [← sw] at hb
        exact ow_wipe hb
      · have := putD_len accd y z
        omega
  · have ei : i = ds.length := by omega
    subst ei
    rw [List.drop_length] at hr'
    unfold runDcT at hr'
    cases hr'
    refine .inl ⟨wk.st B' H' g'.hg a'.ex, ?_⟩
    have ar := a1.rest hf g'.hg a'
    have gx : Gx σ e B H (restE e1 e2 vs) B' H' := g1.trans ⟨g', fun b hb => o' b (ow_rest hf hb)⟩
    have no : ¬ Ow σ (restE e1 e2 vs) Dl := fun z => noD (o' _ (ow_rest hf z))
    have h0 := g1.go.dm Dl hD
    obtain ⟨es, ep, kvs, m1, m2, m3⟩ := hd'
    refine q (.ref Dl) _ H' (ar.fzo m1 hB' no) (gx.fzo h0 hB') ?_
    have od : OwnD K (upd B' Dl (DicO Dl es ep)) Dl (DicO Dl es ep) ys := .inr ⟨hm, Nat.le_trans hal (by rw [sizeLine_eq]; omega), es, ep, kvs, rfl, m2.mono (Ex.new hB'), m3.mono (Ex.new hB')⟩
    exact od.dq upd_same
end
end Fd
end

section
set_option Elab.async false
set_option linter.all false
set_option maxRecDepth 100000
set_option maxHeartbeats 1000000
/-! Walks by meaning 18: a new list of new lists, told as data, and changed inside behind that. -/
variable [Fd.Uw]
namespace Fd
open PySem PySem.Spec PyProof.Rows L2 Evl Tb

/-! ### new lists in a new list -/
def SEf (K : PySem.W.Frag) (te : TE) (f : Dn PyData) : Prop := ∀ (W : Wo), W.K = K → ∀ (σ : L2.St) (e : En) (B H : Hp), At W σ e B H → ∀ d e', f e = some (d, e') →
  ∀ Q : VK, (∀ p vs ds B' H', At W σ e' B' H' → Gx σ e B H e' B' H' → d = .list ds → H p = none → B' p = some (.lst vs) → DqAll K B' vs ds → Q (.ref p) H') → te σ H Q
theorem sef_fz {K : PySem.W.Frag} {te : TE} {k : Dn (List PyData)} (h : SL K te k) : SEf K te (dFz k) := fun W hW σ e B H a d e' h' Q q => by
  obtain ⟨x, e1, h1, h2⟩ := dBind_some h'
  obtain ⟨rfl, rfl⟩ := dK_some h2
  refine h W hW σ e B H a x e' h1 _ fun p vs B1 H1 a1 g1 p0 hp pB hd => ?_
  have no : ¬ Ow σ e' p := fun z => (a.ow (g1.ow p z)).2.1 p0
  refine q p vs x _ _ (a1.fz hp pB no) ⟨⟨g1.go.hg.trans (Ex.new pB), g1.go.fr, g1.go.dm, fun b hn hb hh => ?_⟩, g1.ow⟩ rfl p0 upd_same (dpa_mono (Ex.new pB) hd)
  by_cases c : b = p
  · subst c
    exact absurd p0 hh
  · rw [upd_ne c]
    exact g1.go.sp b hn hb hh
inductive Frs (K : PySem.W.Frag) (H B : Hp) : List V → List PyData → Prop
  | nil : Frs K H B [] []
  | cons {q : Addr} {ws vs : List V} {es ds : List PyData} : H q = none → B q = some (.lst ws) → DqAll K B ws es → Frs K H B vs ds → Frs K H B (.ref q :: vs) (.list es :: ds)
theorem Frs.mono {K : PySem.W.Frag} {H B B' : Hp} (x : Ex B B') : ∀ {vs ds}, Frs K H B vs ds → Frs K H B' vs ds
  | _, _, .nil => .nil
  | _, _, .cons h1 h2 h3 r => .cons h1 (x _ _ h2) (dpa_mono x h3) (r.mono x)
theorem Frs.low {K : PySem.W.Frag} {H H0 B : Hp} (x : ∀ b, H b = none → H0 b = none) : ∀ {vs ds}, Frs K H B vs ds → Frs K H0 B vs ds
  | _, _, .nil => .nil
  | _, _, .cons h1 h2 h3 r => .cons (x _ h1) h2 h3 (r.low x)
theorem Frs.app {K : PySem.W.Frag} {H B : Hp} : ∀ {vs ws ds es}, Frs K H B vs ds → Frs K H B ws es → Frs K H B (vs ++ ws) (ds ++ es)
  | _, _, _, _, .nil, b => b
  | _, _, _, _, .cons h1 h2 h3 r, b => .cons h1 h2 h3 (r.app b)
theorem Frs.dpa {K : PySem.W.Frag} {H B : Hp} : ∀ {vs ds}, Frs K H B vs ds → DqAll K B vs ds
  | _, _, .nil => .nil
  | _, _, .cons h1 h2 h3 r => .cons (.lst (sq_of h2) h3) r.dpa
theorem Frs.ne {K : PySem.W.Frag} {H B : Hp} {p : Addr} (h0 : B p = none) : ∀ {vs ds}, Frs K H B vs ds → ∀ q, V.ref q ∈ vs → q ≠ p
  | _, _, .nil, _, h => nomatch h
  | _, _, .cons h1 h2 h3 r, q, h => by
    rcases List.mem_cons.mp h with e | h
    · cases e
      intro z
      rw [z, h0] at h2
      cases h2
    · exact r.ne h0 q h
def SLf (K : PySem.W.Frag) (te : TE) (f : Dn (List PyData)) : Prop := ∀ (W : Wo), W.K = K → ∀ (σ : L2.St) (e : En) (B H : Hp), At W σ e B H → ∀ ds e', f e = some (ds, e') →
  ∀ Q : VK, (∀ p vs B' H', At W σ e' B' H' → Gx σ e B H e' B' H' → H p = none → B' p = some (.lst vs) → Frs K H B' vs ds → (∀ q, V.ref q ∈ vs → q ≠ p) → Q (.ref p) H') → te σ H Q
section
variable {K : PySem.W.Frag} {wi : TI} {g : TG} {tt : TT} {te : TE} {sl vs : List Nat} {it : Dn (List PyData)} {fg : PyData → En → Option En} {ft : Dn Bool} {f : Dn PyData}
theorem slf_lc (hi : SI K wi it) (hg : SG K g sl fg) (ht : ST K tt ft) (he : SEf K te f) (hs : ∀ i ∈ sl, i ∈ vs) : SLf K (tLc wi g tt te vs) (dLc it fg ft f vs) := fun W hW σ e B H a ys e' h' Q q => by
  unfold dLc at h'
  split at h'
  · cases h'
  rename_i ds e1 h1
  by_cases hc : (vsFree e1 vs && fewer ds) = true
  case neg =>
    rw [if_neg hc] at h'
    cases h'
  rw [if_pos hc] at h'
  rw [Bool.and_eq_true] at hc
  obtain ⟨hf, hlen⟩ := hc
  have hlen := of_decide_eq_true hlen
  split at h'
  · cases h'
  rename_i ys2 e2 h2
  cases h'
  refine hi W hW σ e B H a ds e1 h1 _ fun J B1 H1 a1 g1 wk => fun Dl hD => ?_
  have hpn := free_pn a1 hf
  have noD : ¬ Ow σ e1 Dl := fun z => (a1.ow z).2.1 hD
  have BD : B1 Dl = none := fresh_back a1.ex hD
  have aw : At W (L2.wipe σ vs) (wipeE e1 vs) B1 H1 := a1.wipe hpn
  refine ⟨fun i m H' => ∃ (e' : En) (B' : Hp) (acc : List V) (accd ys' : List PyData), At W (L2.wipe σ vs) e' B' H' ∧ Go (Ow σ e1) B1 H1 B' H' ∧ (∀ b, Ow (L2.wipe σ vs) e' b → Ow σ e1 b) ∧ H' Dl = some (.lst acc) ∧ B' Dl = none ∧ Frs K H B' acc accd ∧ i ≤ ds.length ∧ m = ds.length - i ∧
    runLc fg ft f vs (ds.drop i) e' = some (ys', e2) ∧ accd ++ ys' = ys ∧ accd.length ≤ i, ⟨_, _, B1, [], [], ys, aw.oth BD (fun z => noD (ow_wipe z)), (Go.refl _ _ _).put hD, fun b => ow_wipe, upd_same, BD, .nil, Nat.zero_le _, rfl, h2, rfl, Nat.le_refl _⟩, ?_⟩
  rintro i m H' ⟨e', B', acc, accd, ys', a', g', o', hl', hB', hd', hi', rfl, hr', hys, hal⟩
  by_cases hlt : i < ds.length
  · refine .inr ⟨wk.go i B' H' g'.hg a'.ex hlt, fun H2 => ∃ (e' : En) (B' : Hp) (acc : List V) (accd ys' : List PyData), At W (L2.wipe σ vs) e' B' H2 ∧ Go (Ow σ e1) B1 H1 B' H2 ∧ (∀ b, Ow (L2.wipe σ vs) e' b → Ow σ e1 b) ∧ H2 Dl = some (.lst acc) ∧ B' Dl = none ∧ Frs K H B' acc accd ∧
      runLc fg ft f vs (ds.drop (i + 1)) e' = some (ys', e2) ∧ accd ++ ys' = ys ∧ accd.length ≤ i + 1, ?_, ?_⟩
    · rintro H2 ⟨e', B', acc, accd, ys', p1, p2, p3, p4, p5, p6, p7, p8, p9⟩
      exact ⟨ds.length - (i + 1), by omega, e', B', acc, accd, ys', p1, p2, p3, p4, p5, p6, hlt, rfl, p7, p8, p9⟩
    intro x H2 hy
    obtain ⟨B2, gr, hdx⟩ := wk.yl i ds[i] B' H' x H2 g'.hg a'.ex (List.getElem?_eq_getElem hlt) hy
    rw [List.drop_eq_getElem_cons hlt] at hr'
    unfold runLc at hr'
    have a2 := a'.gr gr
    have g2 : Go (Ow σ e1) B1 H1 B2 H2 := g'.trans (.gr gr)
    split at hr'
    · cases hr'
    rename_i e3 h3
    refine hg W hW (L2.wipe σ vs) e' B2 H2 x _ a2 hdx e3 h3 _ fun σ3 a3 o3 w3 l3 => ?_
    have sw : L2.wipe σ3 vs = L2.wipe σ vs := by
      rw [← wipe_wipe σ vs]
      exact wipe_same l3 fun j hj => w3 j fun z => hj (hs j z)
    refine ⟨sw, ?_⟩
    have o3' : ∀ b, Ow σ3 e3 b → Ow σ e1 b := fun b hb => o' b (o3 b hb)
    have no3 : ¬ Ow σ3 e3 Dl := fun z => noD (o3' _ z)
    have hl2 : H2 Dl = some (.lst acc) := gr.h12 _ _ hl'
    have hne2 : H2 Dl ≠ none := by rw [hl2]; exact fun z => nomatch z
    have hB2 : B2 Dl = none := gr.sep Dl hB' (by rw [hl']; exact fun z => nomatch z)
    split at hr'
    · cases hr'
    · rename_i e4 h4
      refine ht W hW σ3 e3 B2 H2 a3 _ e4 h4 _ fun B4 H4 a4 g4 => ?_
      rw [if_neg Bool.false_ne_true]
      have a5 := a4.wipe hpn
      rw [sw] at a5
      refine ⟨wipeE e4 vs, B4, acc, accd, ys', a5, g2.trans (g4.go.mono o3'), fun b hb => o3' b (g4.ow b ?_), g4.go.fr _ _ no3 hl2, g4.go.sp Dl no3 hB2 hne2, hd'.mono (gr.hg.trans g4.go.hg), hr', hys, by omega⟩
      rw [← sw] at hb
      exact ow_wipe hb
    · rename_i e4 h4
      refine ht W hW σ3 e3 B2 H2 a3 _ e4 h4 _ fun B4 H4 a4 g4 => ?_
      rw [if_pos rfl]
      split at hr'
      · cases hr'
      rename_i y e5 h5
      split at hr'
      · cases hr'
      rename_i ys3 e6 h6
      cases hr'
      have hl4 := g4.go.fr _ _ no3 hl2
      have hB4 := g4.go.sp Dl no3 hB2 hne2
      have no4 : ¬ Ow σ3 e4 Dl := fun z => no3 (g4.ow _ z)
      refine he W hW σ3 e4 B4 H4 a4 y e5 h5 _ fun v us es B5 H5 a5 g5 dy dv db du => ?_
      have hl5 := g5.go.fr _ _ no4 hl4
      have hB5 := g5.go.sp Dl no4 hB4 (by rw [hl4]; exact fun z => nomatch z)
      have no5 : ¬ Ow σ3 e5 Dl := fun z => no4 (g5.ow _ z)
      have hal2 := DqAll.length hd'.dpa
      have a6 := (a5.oth (o := .lst (acc ++ [.ref v])) hB5 no5).wipe hpn
      rw [sw] at a6
      have v0 : H v = none := g1.go.dm v (g2.dm v ((g4.go.mono o3').dm v dv))
      refine ⟨acc, hl5, sz_lt (by omega), wipeE e5 vs, B5, acc ++ [.ref v], accd ++ [y], ys3, a6, Go.put ((g2.trans (g4.go.mono o3')).trans (g5.go.mono fun b hb => o3' b (g4.ow b hb))) hD, fun b hb => o3' b (g4.ow b (g5.ow b ?_)), upd_same, hB5, ?_, h6, ?_, ?_⟩
      · rw [← sw] at hb
        exact ow_wipe hb
      · subst dy
        exact (hd'.mono ((gr.hg.trans g4.go.hg).trans g5.go.hg)).app (.cons v0 db du .nil)
      · rw [List.append_assoc]
        exact hys
      · rw [List.length_append]
        show accd.length + 1 ≤ i + 1
        omega
  · have ei : i = ds.length := by omega
    subst ei
    rw [List.drop_length] at hr'
    unfold runLc at hr'
    cases hr'
    rw [List.append_nil] at hys
    subst hys
    refine .inl ⟨wk.st B' H' g'.hg a'.ex, ?_⟩
    have a9 := a1.rest hf g'.hg a'
    have g9 : Gx σ e B H (restE e1 e2 vs) B' H' := g1.trans ⟨g', fun b hb => o' b (ow_rest hf hb)⟩
    have p0 := g1.go.dm Dl hD
    have no : ¬ Ow σ (restE e1 e2 vs) Dl := fun z => (a.ow (g9.ow _ z)).2.1 p0
    refine q Dl acc (upd B' Dl (.lst acc)) H' (a9.fz hl' hB' no) ⟨⟨g9.go.hg.trans (Ex.new hB'), g9.go.fr, g9.go.dm, fun b hn hb hh => ?_⟩, g9.ow⟩ p0 upd_same (hd'.mono (Ex.new hB')) (hd'.ne hB')
    by_cases c : b = Dl
    · subst c
      exact absurd p0 hh
    · rw [upd_ne c]
      exact g9.go.sp b hn hb hh
end
end Fd
end

section
set_option Elab.async false
set_option linter.all false
set_option maxRecDepth 100000
set_option maxHeartbeats 1000000
/-! Walks by meaning 19: the rows of a list are changed, and the list is forgotten. -/
variable [Fd.Uw]
namespace Fd
open PySem PySem.Spec PyProof.Rows L2 Evl Tb

/-! ### a statement that keeps a slot -/
def SKp (K : PySem.W.Frag) (i : Nat) (t : TS) (f : Ds) : Prop := ∀ (W : Wo), W.K = K → ∀ (σ : L2.St) (e : En) (B H : Hp), At W σ e B H → ∀ e1, f e = some (.nx e1) →
  ∀ D : Ends, (∀ σ' B' H', At W σ' e1 B' H' → Go W.M B H B' H' → σ'[i]? = σ[i]? → D.nx σ' H') → t D σ H
section
variable {K : PySem.W.Frag} {te : TE} {ta : TA} {f : Dn PyData} {fl : Dn (List PyData)}
theorem sk_asg {i j : Nat} (h : SE K te f) (hj : j ≠ i) : SKp K i (tAsg te (gName j)) (sAsg f (dName j)) := fun W hW σ e B H a e1 hr D q => by
  unfold sAsg at hr
  split at hr
  · rename_i d e2 h1
    obtain ⟨e3, h2, h3⟩ := Option.map_eq_some_iff.mp hr
    cases h3
    refine h W hW σ e B H a d e2 h1 _ fun v B1 H1 a1 g1 d1 => sg_name W hW σ e2 B1 H1 v d a1 d1 e1 h2 _ fun σ2 a2 o2 w2 _ => q σ2 B1 H1 a2 (a.goM g1) ?_
    exact w2 i fun z => hj (List.mem_singleton.mp z).symm
  · cases hr
theorem sk_par {i j l : Nat} (h : SA K ta fl) (hj : j ≠ i) (hl : l ≠ i) : SKp K i (tPar j l ta) (sPar fl [j, l]) := fun W hW σ e B H a e1 hr D q => by
  unfold sPar at hr
  split at hr
  · rename_i ds e2 h1
    obtain ⟨e3, h2, h3⟩ := Option.map_eq_some_iff.mp hr
    cases h3
    refine h W hW σ e B H a ds e2 h1 _ fun vs B1 H1 a1 g1 d1 => ?_
    obtain ⟨_, rfl, k2⟩ := sets_ok [j, l] vs ds σ e2 e1 B1 H1 a1 (hW ▸ d1) h2
    match vs, ds, d1, h2 with
    | [v, w], [d1', d2'], _, _ =>
      refine ⟨v, w, rfl, q _ B1 H1 k2 (a.goM g1) ?_⟩
      show ((σ.set j (some v)).set l (some w))[i]? = σ[i]?
      rw [List.getElem?_set_ne hl, List.getElem?_set_ne hj]
    | [], [], _, h2 => cases h2
    | [v], [d], _, h2 =>
      unfold sSets at h2
      split at h2 <;> cases h2
    | _ :: _ :: _ :: _, _ :: _ :: _ :: _, _, h2 =>
      unfold sSets at h2
      split at h2
      · unfold sSets at h2
        split at h2 <;> cases h2
      · cases h2
  · cases hr
theorem sk_next {i : Nat} : SKp K i tNext (fun e => some (.nx e)) := fun W hW σ e B H a e1 hr D q => by
  cases hr
  exact q σ B H a (.refl _ _ _) rfl
end

/-! ### rows that are changed -/
def WiR (S : Addr → Prop) (N : Nat) (H : Hp) (p : Addr) (qs : List Addr) : Prop := H p = some (.lst (qs.map V.ref)) ∧ qs.length ≤ N ∧ ∀ q ∈ qs, S q ∧ q ≠ p ∧ ∃ ws, H q = some (.lst ws) ∧ 2 ≤ ws.length ∧ ws.length ≤ N
structure Wi (i : Nat) (S : Addr → Prop) (H1 : Hp) (p : Addr) (N : Nat) (σ : L2.St) (H : Hp) : Prop where
  sp : S p
  sl : σ[i]? = some (some (.ref p))
  rows : ∃ qs, WiR S N H p qs
  fr : ∀ b o, ¬ S b → H1 b = some o → H b = some o
  dm : ∀ b, H b = none → H1 b = none
def SW (i j N N' : Nat) (t : TS) : Prop := ∀ (S : Addr → Prop) (H1 : Hp) (p : Addr) (σ : L2.St) (H : Hp), (∀ b, H1 b = none → S b) → j < σ.length → Wi i S H1 p N σ H →
  ∀ D : Ends, (∀ σ' H', σ'.length = σ.length → (∀ m, m ≠ j → σ'[m]? = σ[m]?) → Wi i S H1 p N' σ' H' → D.nx σ' H') → t D σ H
theorem sw_seq {i j N N1 N2 : Nat} {t u : TS} (h1 : SW i j N N1 t) (h2 : SW i j N1 N2 u) : SW i j N N2 (tSeq t u) := fun S H1 p σ H hn hj w D q =>
  h1 S H1 p σ H hn hj w _ fun σ' H' l k w' => h2 S H1 p σ' H' hn (by rw [l]; exact hj) w' D fun σ2 H2 l2 k2 w2 => q σ2 H2 (l2.trans l) (fun m hm => (k2 m hm).trans (k m hm)) w2
section
variable {K : PySem.W.Frag} {i j N : Nat}
theorem wi_put {S : Addr → Prop} {H1 H : Hp} {p q : Addr} {σ : L2.St} {ws : List V} {N' : Nat} (w : Wi i S H1 p N σ H) (hq : S q) (ne : q ≠ p) (h : ∃ us, H q = some (.lst us)) (l2 : 2 ≤ ws.length) (lN : ws.length ≤ N') (hN : N ≤ N') : Wi i S H1 p N' σ (upd H q (.lst ws)) where
  sp := w.sp
  sl := w.sl
  rows := by
    obtain ⟨qs, h1, h2, h3⟩ := w.rows
    refine ⟨qs, by rw [upd_ne (Ne.symm ne)]; exact h1, by omega, fun x hx => ?_⟩
    obtain ⟨k1, k2, us, k3, k4, k5⟩ := h3 x hx
    by_cases c : x = q
    · subst c
      exact ⟨k1, k2, ws, upd_same, l2, lN⟩
    · exact ⟨k1, k2, us, by rw [upd_ne c]; exact k3, k4, by omega⟩
  fr := fun b o hb h0 => by
    have c : b ≠ q := fun z => hb (z ▸ hq)
    rw [upd_ne c]
    exact w.fr b o hb h0
  dm := fun b hb => by
    by_cases c : b = q
    · subst c
      rw [upd_same] at hb
      cases hb
    · rw [upd_ne c] at hb
      exact w.dm b hb
theorem Wi.slot {S : Addr → Prop} {H1 H : Hp} {p : Addr} {σ : L2.St} {v : Option V} (w : Wi i S H1 p N σ H) (ij : j ≠ i) : Wi i S H1 p N (σ.set j v) H where
  sp := w.sp
  sl := by rw [List.getElem?_set_ne ij]; exact w.sl
  rows := w.rows
  fr := w.fr
  dm := w.dm
theorem set_keep {σ σ' : L2.St} {j : Nat} {v : Option V} (h : ∀ m, m ≠ j → σ'[m]? = σ[m]?) : ∀ m, m ≠ j → (σ'.set j v)[m]? = σ[m]? := fun m hm => by
  rw [List.getElem?_set_ne (Ne.symm hm)]
  exact h m hm
/-- for row in rows: row[k] = v -/
theorem sw_set {v : V} {k : Int} {n : Nat} (ij : j ≠ i) (hk : ∀ l, 2 ≤ l → ixN l k = some n) (hn : n < 2) : SW i j N N (tFor (iRow K (tVar i)) (gName j) (tAsg (tC v) (gSub (tVar j) (tC (.int k)) rSetL))) := fun S H1 p σ H hno hj w D q => by
  obtain ⟨qs, h1, h2, h3⟩ := w.rows
  refine ⟨.ref p, w.sl, p, rfl, .inl ⟨⟨_, sq_of h1⟩, for_list (xs := qs.map V.ref) (fun _ σ' H' => σ'.length = σ.length ∧ (∀ m, m ≠ j → σ'[m]? = σ[m]?) ∧ H' p = some (.lst (qs.map V.ref)) ∧ Wi i S H1 p N σ' H' ∧ ∀ q ∈ qs, S q ∧ q ≠ p ∧ ∃ ws, H' q = some (.lst ws) ∧ 2 ≤ ws.length ∧ ws.length ≤ N) ⟨rfl, fun _ _ => rfl, h1, w, h3⟩ (fun _ σ' H' _ z => sq_of z.2.2.1) ?_ fun σ' H' z => q σ' H' z.1 z.2.1 z.2.2.2.1⟩⟩
  rintro m x σ' H' hx ⟨l', k', hp', w', h3'⟩
  obtain ⟨a, ha, rfl⟩ := List.mem_map.mp (List.mem_of_getElem? hx)
  obtain ⟨sa, na, ws, hw, hw2, hwN⟩ := h3' a ha
  refine ⟨.ref a, List.getElem?_set_self (by rw [l']; exact hj), a, ws, k, n, rfl, rfl, hw, hk _ hw2, ?_⟩
  refine ⟨by rw [List.length_set]; exact l', set_keep k', by rw [upd_ne (Ne.symm na)]; exact hp', wi_put (w'.slot ij) sa na ⟨_, hw⟩ (by rw [List.length_set]; exact hw2) (by rw [List.length_set]; exact hwN) (Nat.le_refl _), fun y hy => ?_⟩
  obtain ⟨k1, k2, us, k3, k4, k5⟩ := h3' y hy
  by_cases c : y = a
  · subst c
    exact ⟨k1, k2, _, upd_same, by rw [List.length_set]; exact hw2, by rw [List.length_set]; exact hwN⟩
  · exact ⟨k1, k2, us, by rw [upd_ne c]; exact k3, k4, k5⟩
/-- for row in rows: row.append(v) -/
theorem sw_appR {v : V} (ij : j ≠ i) (hN : N ≤ 40000) : SW i j N (N + N) (tFor (iRow K (tVar i)) (gName j) (tDrop (tBM K "list" rAppend (tVar j) (tCons (tC v) tNil)))) := fun S H1 p σ H hno hj w D q => by
  obtain ⟨qs, h1, h2, h3⟩ := w.rows
  refine ⟨.ref p, w.sl, p, rfl, .inl ⟨⟨_, sq_of h1⟩, for_list (xs := qs.map V.ref) (fun m σ' H' => m ≤ qs.length → (σ'.length = σ.length ∧ (∀ m, m ≠ j → σ'[m]? = σ[m]?) ∧ H' p = some (.lst (qs.map V.ref)) ∧ Wi i S H1 p (N + m) σ' H' ∧ ∀ q ∈ qs, S q ∧ q ≠ p ∧ ∃ ws, H' q = some (.lst ws) ∧ 2 ≤ ws.length ∧ ws.length ≤ N + m)) (fun _ => ⟨rfl, fun _ _ => rfl, h1, w, h3⟩) (fun m σ' H' hm z => sq_of (z (by rw [List.length_map] at hm; exact hm)).2.2.1) ?_ fun σ' H' z => ?_⟩⟩
  · rintro m x σ' H' hx z
    have hml : m < qs.length := by
      have := (List.getElem?_eq_some_iff.mp hx).1
      rw [List.length_map] at this
      exact this
    obtain ⟨l', k', hp', w', h3'⟩ := z (by omega)
    obtain ⟨a, ha, rfl⟩ := List.mem_map.mp (List.mem_of_getElem? hx)
    obtain ⟨sa, na, ws, hw, hw2, hwN⟩ := h3' a ha
    refine ⟨.ref a, List.getElem?_set_self (by rw [l']; exact hj), .inl ⟨rfl, ws, sq_of hw⟩, a, ws, v, rfl, rfl, hw, sz_lt (by omega), fun _ => ?_⟩
    refine ⟨by rw [List.length_set]; exact l', set_keep k', by rw [upd_ne (Ne.symm na)]; exact hp', wi_put (w'.slot ij) sa na ⟨_, hw⟩ (by rw [List.length_append]; exact Nat.le_add_right_of_le hw2) (by rw [List.length_append]; show ws.length + 1 ≤ _; omega) (by omega), fun y hy => ?_⟩
    obtain ⟨k1, k2, us, k3, k4, k5⟩ := h3' y hy
    by_cases c : y = a
    · subst c
      exact ⟨k1, k2, _, upd_same, by rw [List.length_append]; exact Nat.le_add_right_of_le hw2, by rw [List.length_append]; show ws.length + 1 ≤ _; omega⟩
    · exact ⟨k1, k2, us, by rw [upd_ne c]; exact k3, k4, by omega⟩
  · obtain ⟨l', k', hp', w', h3'⟩ := z (by rw [List.length_map]; exact Nat.le_refl _)
    rw [List.length_map] at w'
    refine q σ' H' l' k' ⟨w'.sp, w'.sl, ?_, w'.fr, w'.dm⟩
    obtain ⟨rs, r1, r2, r3⟩ := w'.rows
    exact ⟨rs, r1, by omega, fun y hy => by
      obtain ⟨k1, k2, us, k3, k4, k5⟩ := r3 y hy
      exact ⟨k1, k2, us, k3, k4, by omega⟩⟩
/-- rows.append([..]) -/
theorem sw_app {te : TE} {fl : Dn (List PyData)} {es : List PyData} (h : SL K te fl) (hfl : ∀ e, ∃ e', fl e = some (es, e')) (h2 : 2 ≤ es.length) (hN : es.length ≤ N) (hN2 : N ≤ 90000) : SW i j N (N + 1) (tDrop (tBM K "list" rAppend (tVar i) (tCons te tNil))) := fun S H1 p σ H hno hj w D q => by
  obtain ⟨qs, h1, h2', h3⟩ := w.rows
  obtain ⟨e', he'⟩ := hfl (List.replicate σ.length .no)
  let W : Wo := ⟨K, fun _ => True, fun _ => none⟩
  have hno' : ∀ (m : Nat) s, (List.replicate σ.length Sl.no)[m]? = some s → s = .no := fun m s hm => (List.mem_replicate.mp (List.mem_of_getElem? hm)).2
  have at0 : At W σ (List.replicate σ.length .no) (fun _ => none) H := by
    refine ⟨fun _ _ z => (nomatch z), fun _ _ => trivial, by rw [List.length_replicate], fun m x hm => (nomatch hno' m _ hm), fun m s xs hm hs => ?_, fun m l s t a xs ys hm hs => ?_, fun m a hm => (nomatch hm)⟩
    · rw [hno' m s hm] at hs
      cases hs
    · have := hno' m s hm
      subst this
      cases hs
  refine ⟨.ref p, w.sl, .inl ⟨rfl, _, sq_of h1⟩, h W rfl σ _ _ H at0 es e' he' _ fun r us B' H' a' g' r0 hr _ hd => ?_⟩
  have ow0 : ∀ b, ¬ Ow σ (List.replicate σ.length .no) b := fun b z => by
    obtain ⟨m, s, xs, k1, k2, _⟩ := z
    rw [hno' m s k1] at k2
    cases k2
  have up : ∀ b o, H b = some o → H' b = some o := fun b o hb => g'.go.fr b o (ow0 b) hb
  have pr : p ≠ r := fun z => by
    rw [z, r0] at h1
    cases h1
  have lu := DqAll.length hd
  refine ⟨p, qs.map V.ref, .ref r, rfl, rfl, up _ _ h1, sz_lt (by rw [List.length_map]; omega), q σ _ rfl (fun _ _ => rfl) ⟨w.sp, w.sl, ⟨qs ++ [r], by rw [List.map_append]; exact upd_same, by rw [List.length_append]; show qs.length + 1 ≤ _; omega, fun y hy => ?_⟩, fun b o hb h0 => ?_, fun b hb => ?_⟩⟩
  · rcases List.mem_append.mp hy with hy | hy
    · obtain ⟨k1, k2, ws, k3, k4, k5⟩ := h3 y hy
      exact ⟨k1, k2, ws, by rw [upd_ne k2]; exact up _ _ k3, k4, by omega⟩
    · rw [List.mem_singleton.mp hy]
      exact ⟨hno r (w.dm r r0), Ne.symm pr, us, by rw [upd_ne (Ne.symm pr)]; exact hr, by omega, by omega⟩
  · have c : b ≠ p := fun z => hb (z ▸ w.sp)
    rw [upd_ne c]
    exact up _ _ (w.fr b o hb h0)
  · by_cases c : b = p
    · subst c
      rw [upd_same] at hb
      cases hb
    · rw [upd_ne c] at hb
      exact w.dm b (g'.go.dm b hb)
end

theorem ixN_0 (l : Nat) (h : 2 ≤ l) : ixN l 0 = some 0 := by
  unfold ixN
  simp
  omega
theorem ixN_1 (l : Nat) (h : 2 ≤ l) : ixN l 1 = some 1 := by
  unfold ixN
  simp
  omega
/-! ### data without lists -/
def lfN : Nat → PyData → Bool
  | 0, d => match d with
    | .list _ => false
    | .tuple _ => false
    | .dict _ => false
    | _ => true
  | n + 1, d => match d with
    | .list _ => false
    | .tuple ds => ds.all (lfN n)
    | .dict _ => false
    | _ => true
theorem lf_dp {K : PySem.W.Frag} {B B' : Hp} (h : ∀ a us, SqT K B a us → SqT K B' a us) (hp : ∀ a us, PlT B a us → PlT B' a us) : ∀ (n : Nat) (d : PyData) (v : V), lfN n d = true → Dq K B v d → Dq K B' v d := by
  intro n
  induction n with
  | zero =>
    intro d v hl hd
    cases hd with
    | non => exact .non
    | bl b => exact .bl b
    | int i => exact .int i
    | str x => exact .str x
    | lst _ _ => simp [lfN] at hl
    | tup _ _ _ => simp [lfN] at hl
    | dic _ _ _ => simp [lfN] at hl
  | succ n ih =>
    have all : ∀ (ds : List PyData) (vs : List V), ds.all (lfN n) = true → DqAll K B vs ds → DqAll K B' vs ds := by
      intro ds
      induction ds with
      | nil =>
        intro vs _ hd
        cases hd
        exact .nil
      | cons x xs ihx =>
        intro vs hl hd
        cases hd with
        | cons h1 h2 =>
          rw [List.all_cons, Bool.and_eq_true] at hl
          exact .cons (ih x _ hl.1 h1) (ihx _ hl.2 h2)
    intro d v hl hd
    cases hd with
    | non => exact .non
    | bl b => exact .bl b
    | int i => exact .int i
    | str x => exact .str x
    | lst _ _ => simp [lfN] at hl
    | tup h1 h2 h3 => exact .tup (h _ _ h1) (all _ _ (by simpa [lfN] using hl) h2) fun z => hp _ _ (h3 z)
    | dic _ _ _ => simp [lfN] at hl
theorem lf_all {K : PySem.W.Frag} {B B' : Hp} (h : ∀ a us, SqT K B a us → SqT K B' a us) (hp : ∀ a us, PlT B a us → PlT B' a us) (n : Nat) : ∀ (ds : List PyData) (vs : List V), ds.all (lfN n) = true → DqAll K B vs ds → DqAll K B' vs ds := by
  intro ds
  induction ds with
  | nil =>
    intro vs _ hd
    cases hd
    exact .nil
  | cons x xs ihx =>
    intro vs hl hd
    cases hd with
    | cons h1 h2 =>
      rw [List.all_cons, Bool.and_eq_true] at hl
      exact .cons (lf_dp h hp n x _ hl.1 h1) (ihx _ hl.2 h2)
def lf (d : PyData) : Bool := lfN 3 d
def lfs : Sl → Sl
  | .no => .no
  | .d x => if lf x = true then .d x else .no
  | .o xs => if xs.all lf = true then .o xs else .no
  | .p xs => .p xs
  | .q ds => if ds.all (fun d => (keyI d.1).isSome && lf d.2) = true then .q ds else .no
  | .u xs => .u xs
def okP (e : En) : Bool := e.all fun s => match s with
  | .p xs => xs.all lf
  | _ => true
def pairRows (rs : List PyData) : Bool := decide (rs.length ≤ 5000) && rs.all fun r => match r with
  | .list ys => decide (2 ≤ ys.length ∧ ys.length ≤ 5000)
  | _ => false
def sFree (C : Dn (List PyData)) (i j : Nat) (F : Ds) : Ds := fun e => match C e with
  | some (rs, e1) => match setD i (.list rs) e1 with
    | some e2 => match F e2 with
      | some (.nx e3) => if (pairRows rs && (okP e3 && (canSet e3 j && canSet e3 i))) = true then some (.nx (((e3.map lfs).set i .no).set j .no)) else none
      | _ => none
    | none => none
  | none => none
theorem frs_qs {K : PySem.W.Frag} {H B : Hp} : ∀ {vs : List V} {ds : List PyData}, Frs K H B vs ds → ∃ qs : List Addr, vs = qs.map V.ref ∧ ∀ q ∈ qs, H q = none ∧ ∃ ws es, B q = some (.lst ws) ∧ ws.length = es.length ∧ PyData.list es ∈ ds
  | _, _, .nil => ⟨[], rfl, fun _ h => nomatch h⟩
  | _, _, .cons (q := q) (ws := ws) (es := es) h1 h2 h3 r => by
    obtain ⟨qs, rfl, h⟩ := frs_qs r
    refine ⟨q :: qs, rfl, fun x hx => ?_⟩
    rcases List.mem_cons.mp hx with rfl | hx
    · exact ⟨h1, ws, es, h2, DqAll.length h3, List.mem_cons_self⟩
    · obtain ⟨k1, ws', es', k2, k3, k4⟩ := h x hx
      exact ⟨k1, ws', es', k2, k3, List.mem_cons_of_mem _ k4⟩
theorem lfs_d {s : Sl} {x : PyData} (h : lfs s = .d x) : s = .d x ∧ lf x = true := by
  cases s with
  | no => cases h
  | d y =>
    simp only [lfs] at h
    split at h
    · cases h
      exact ⟨rfl, by assumption⟩
    · cases h
  | o xs =>
    simp only [lfs] at h
    split at h <;> cases h
  | p xs => cases h
  | q xs =>
    simp only [lfs] at h
    split at h <;> cases h
  | u xs => cases h
theorem lfs_own {s t : Sl} {xs : Cn} (h : lfs s = t) (ht : t.own = some xs) : s = t := by
  cases s with
  | no => exact h
  | d y =>
    simp only [lfs] at h
    split at h
    · exact h
    · subst h
      cases ht
  | o xs =>
    simp only [lfs] at h
    split at h
    · exact h
    · subst h
      cases ht
  | p xs => exact h
  | q xs =>
    simp only [lfs] at h
    split at h
    · exact h
    · subst h
      cases ht
  | u xs => exact h
theorem kvd_lf {K : PySem.W.Frag} {B B' : Hp} (hd : ∀ x v, lf x = true → Dq K B v x → Dq K B' v x) : ∀ {ks : List (Key × V)} {ds : List (PyData × PyData)}, KVD K B ks ds → ds.all (fun d => (keyI d.1).isSome && lf d.2) = true → KVD K B' ks ds
  | _, _, .nil, _ => .nil
  | _, _, .cons h t, ha => by
    rw [List.all_cons, Bool.and_eq_true, Bool.and_eq_true] at ha
    exact .cons ⟨h.1, hd _ _ ha.1.2 h.2⟩ (kvd_lf hd t ha.2)
theorem own_lf {K : PySem.W.Frag} {B B' : Hp} (hd : ∀ x v, lf x = true → Dq K B v x → Dq K B' v x) {q : Addr} {o : HO} {ds : List (PyData × PyData)} (h : OwnD K B q o ds) (ha : ds.all (fun d => (keyI d.1).isSome && lf d.2) = true) : OwnD K B' q o ds := by
  rcases h with ⟨ks, e1, r, hne⟩ | ⟨z0, z2, es, ep, kvs, e3, ⟨ys, y1, y2, y3, y4⟩, z7⟩
  · exact .inl ⟨ks, e1, kvd_lf hd r ha, hne⟩
  · cases z7 with
    | nil =>
      cases y3
      exact .inr ⟨z0, z2, es, ep, [], e3, ⟨[], y1, y2, .nil, y4⟩, .nil⟩
    | cons r t =>
      exfalso
      cases y3 with
      | cons r2 t2 =>
        rw [List.all_cons, Bool.and_eq_true, Bool.and_eq_true] at ha
        obtain ⟨z, hz⟩ := Option.isSome_iff_exists.mp ha.1.1
        have e1 := r.1
        rw [keyI_key hz] at e1
        have e2 := r2.2
        rw [← r2.1.1, ← Option.some.inj e1] at e2
        cases z <;> cases e2
section
variable {K : PySem.W.Frag} {te : TE} {tF tG : TS} {C : Dn (List PyData)} {F : Ds} {i j N : Nat}
theorem ss_free (hC : SLf K te C) (hF : SKp K i tF F) (hG : SW i j 5000 N tG) : SS K (tSeq (tAsg te (gName i)) (tSeq tF tG)) (sFree C i j F) := fun W hW σ e B H a r hr D q => by
  classical
  unfold sFree at hr
  split at hr
  case h_2 => cases hr
  rename_i rs e1 hc1
  split at hr
  case h_2 => cases hr
  rename_i e2 hs2
  split at hr
  case h_2 => cases hr
  rename_i e3 hf3
  split at hr
  case isFalse => cases hr
  rename_i hok
  cases hr
  rw [Bool.and_eq_true, Bool.and_eq_true, Bool.and_eq_true] at hok
  obtain ⟨hrows, hokp, hcj, hci⟩ := hok
  refine hC W hW σ e B H a rs e1 hc1 _ fun p vs B1 H1 a1 g1 p0 hB1 fr1 ne1 => ?_
  have hdp : Dq W.K B1 (.ref p) (.list rs) := hW ▸ Dq.lst (sq_of hB1) fr1.dpa
  obtain ⟨σ2, hσ2, a2⟩ : ∃ σ2, σ2 = σ.set i (some (.ref p)) ∧ At W σ2 e2 B1 H1 ∧ σ2[i]? = some (some (.ref p)) := by
    unfold setD at hs2
    split at hs2
    · rename_i c
      cases hs2
      refine ⟨_, rfl, a1.setD (can_pn a1 c) hdp, List.getElem?_set_self ?_⟩
      rw [a1.len]
      unfold canSet at c
      cases hx : e1[i]? with
      | none => rw [hx] at c; cases c
      | some s => exact (List.getElem?_eq_some_iff.mp hx).1
    · cases hs2
  obtain ⟨a2, sl2⟩ := a2
  show tF { nx := tG D, bk := D.bk, ct := D.ct, rt := D.rt } (σ.set i (some (.ref p))) H1
  rw [← hσ2]
  refine hF W hW σ2 e2 B1 H1 a2 e3 hf3 { nx := tG D, bk := D.bk, ct := D.ct, rt := D.rt } fun σ3 B3 H3 a3 g3 k3 => ?_
  have G13 : Go W.M B H B3 H3 := (a.goM g1).trans g3
  obtain ⟨qs, rfl, hqs⟩ := frs_qs fr1
  let S0 : Addr → Prop := fun b => b = p ∨ b ∈ qs
  have s0H : ∀ b, S0 b → H b = none := fun b hb => hb.elim (fun z => z ▸ p0) fun z => (hqs b z).1
  have s0M : ∀ b, S0 b → W.M b := fun b hb => a.nm b (s0H b hb)
  have s0B : ∀ b, S0 b → ∃ us, B3 b = some (.lst us) := fun b hb => hb.elim (fun z => ⟨_, g3.hg _ _ (z ▸ hB1)⟩) fun z => by
    obtain ⟨_, ws, es, k2, _⟩ := hqs b z
    exact ⟨ws, g3.hg _ _ k2⟩
  let S : Addr → Prop := fun b => S0 b ∨ H3 b = none
  rw [pairRows, Bool.and_eq_true] at hrows
  obtain ⟨hrl, hra⟩ := hrows
  have hrl := of_decide_eq_true hrl
  have hql : qs.length = rs.length := by
    have := DqAll.length fr1.dpa
    rw [List.length_map] at this
    exact this
  have hin3 : ∀ b o, B1 b = some o → H3 b = some o := fun b o hb => a3.ex _ _ (g3.hg _ _ hb)
  have pnq : ∀ q ∈ qs, q ≠ p := fun q hq => ne1 q (List.mem_map_of_mem hq)
  have l3 : i < e3.length := by
    unfold canSet at hci
    cases hx : e3[i]? with
    | none => rw [hx] at hci; cases hci
    | some s => exact (List.getElem?_eq_some_iff.mp hx).1
  have lj3 : j < e3.length := by
    unfold canSet at hcj
    cases hx : e3[j]? with
    | none => rw [hx] at hcj; cases hcj
    | some s => exact (List.getElem?_eq_some_iff.mp hx).1
  have wi : Wi i S H3 p 5000 σ3 H3 := ⟨.inl (.inl rfl), by rw [k3]; exact sl2, ⟨qs, hin3 _ _ hB1, by omega, fun x hx => ?_⟩, fun _ _ _ h => h, fun _ h => h⟩
  case refine_1 =>
    obtain ⟨_, ws, es, m2, m3, m4⟩ := hqs x hx
    have := List.all_eq_true.mp hra _ m4
    have := of_decide_eq_true this
    exact ⟨.inl (.inr hx), pnq x hx, ws, hin3 _ _ m2, by omega, by omega⟩
  refine hG S H3 p σ3 H3 (fun b hb => .inr hb) (by rw [a3.len]; exact lj3) wi D fun σ4 H4 l4 k4 w4 => ?_
  let B4 : Hp := fun b => if S0 b then none else B3 b
  have b4s : ∀ b, S0 b → B4 b = none := fun b hb => if_pos hb
  have b4n : ∀ b, ¬ S0 b → B4 b = B3 b := fun b hb => if_neg hb
  have b4o : ∀ b o, B4 b = some o → ¬ S0 b ∧ B3 b = some o := fun b o hb => by
    by_cases c : S0 b
    · rw [b4s b c] at hb
      cases hb
    · rw [b4n b c] at hb
      exact ⟨c, hb⟩
  have tup4 : ∀ a us, SqT W.K B3 a us → SqT W.K B4 a us := fun a us ht => by
    rcases ht with (ht | ⟨o, ht⟩) | ht
    · refine .inl (.inl ?_)
      rw [b4n a fun z => ?_]
      · exact ht
      · obtain ⟨ws, k⟩ := s0B a z
        rw [ht] at k
        cases k
    · refine .inl (.inr ⟨o, ?_⟩)
      rw [b4n a fun z => ?_]
      · exact ht
      · obtain ⟨ws, k⟩ := s0B a z
        rw [ht] at k
        cases k
    · exact .inr ht
  have plt4 : ∀ a us, PlT B3 a us → PlT B4 a us := fun a us ⟨o, ht, hr⟩ => by
    refine ⟨o, ?_, hr⟩
    rw [b4n a fun z => ?_]
    · exact ht
    · obtain ⟨ws, k⟩ := s0B a z
      rw [ht] at k
      cases k
  have nS : ∀ b o, ¬ S0 b → H3 b = some o → ¬ S b := fun b o h0 h1 z => z.elim h0 fun z => by
    rw [h1] at z
    cases z
  have slot : ∀ (m : Nat) s, (((e3.map lfs).set i .no).set j .no)[m]? = some s → s ≠ .no → m ≠ i ∧ m ≠ j ∧ ∃ s', e3[m]? = some s' ∧ lfs s' = s := fun m s hm hs => by
    rcases set_cases hm with ⟨_, k, _⟩ | ⟨c1, hm⟩
    · exact absurd k hs
    · rcases set_cases hm with ⟨_, k, _⟩ | ⟨c2, hm⟩
      · exact absurd k hs
      · rw [List.getElem?_map] at hm
        obtain ⟨s', h1, h2⟩ := Option.map_eq_some_iff.mp hm
        exact ⟨c2, c1, s', h1, h2⟩
  have ownS : ∀ (m : Nat) s xs, (((e3.map lfs).set i .no).set j .no)[m]? = some s → s.own = some xs → m ≠ i ∧ m ≠ j ∧ e3[m]? = some s := fun m s xs hm hs => by
    obtain ⟨c1, c2, s', h1, h2⟩ := slot m s hm (fun z => by rw [z] at hs; cases hs)
    rw [lfs_own h2 hs] at h1
    exact ⟨c1, c2, h1⟩
  refine q σ4 B4 H4 ⟨fun b o hb => ?_, fun b hb => a3.nm b (w4.dm b hb), ?_, fun m x hm => ?_, fun m s xs hm hs => ?_, fun m l s t r xs ys hm hs hl ht k1 k2 => ?_, fun m r hr => ?_⟩ ⟨fun b o hb => ?_, fun b o hM hb => ?_, fun b hb => G13.dm b (w4.dm b hb), fun b hM hb hh => ?_⟩
  · obtain ⟨c, hb⟩ := b4o b o hb
    exact w4.fr b o (nS b o c (a3.ex _ _ hb)) (a3.ex _ _ hb)
  · rw [l4, List.length_set, List.length_set, List.length_map]
    exact a3.len
  · obtain ⟨c1, c2, s', h1, h2⟩ := slot m _ hm (fun z => nomatch z)
    obtain ⟨rfl, hx⟩ := lfs_d h2
    obtain ⟨v, v1, v2⟩ := a3.dat m x h1
    exact ⟨v, by rw [k4 m c2]; exact v1, lf_dp tup4 plt4 3 x v hx v2⟩
  · obtain ⟨c1, c2, h1⟩ := ownS m s xs hm hs
    obtain ⟨r, us, v1, v2, v3, v4, v5⟩ := a3.own m s xs h1 hs
    have n0 : ¬ S0 r := fun z => by
      obtain ⟨ws, k⟩ := s0B r z
      rw [v3] at k
      cases k
    refine ⟨r, us, by rw [k4 m c2]; exact v1, v2, by rw [b4n r n0]; exact v3, w4.fr r _ (nS r _ n0 v4) v4, ?_⟩
    obtain ⟨_, _, s', h1', h2'⟩ := slot m s hm (fun z => by rw [z] at hs; cases hs)
    rw [h1] at h1'
    cases h1'
    cases s with
    | no => cases hs
    | d y => cases hs
    | o zs =>
      cases hs
      have hlf : zs.all lf = true := by
        simp only [lfs] at h2'
        split at h2'
        · assumption
        · cases h2'
      obtain ⟨ws, w1, w2⟩ := v5
      exact ⟨ws, w1, lf_all tup4 plt4 3 zs ws hlf w2⟩
    | p zs =>
      cases hs
      have hlf : zs.all lf = true := List.all_eq_true.mp hokp _ (List.mem_of_getElem? h1)
      obtain ⟨ws, w1, w2⟩ := v5
      exact ⟨ws, w1, lf_all tup4 plt4 3 zs ws hlf w2⟩
    | q zs =>
      cases hs
      have hlf : zs.all (fun d => (keyI d.1).isSome && lf d.2) = true := by
        simp only [lfs] at h2'
        split at h2'
        · assumption
        · cases h2'
      exact own_lf (fun x v hx hv => lf_dp tup4 plt4 3 x v hx hv) v5 hlf
    | u zs =>
      cases hs
      exact v5
  · obtain ⟨c1, c2, h1⟩ := ownS m s xs hm hs
    obtain ⟨d1, d2, h2⟩ := ownS l t ys hl ht
    rw [k4 m c2] at k1
    rw [k4 l d2] at k2
    exact a3.sep m l s t r xs ys h1 hs h2 ht k1 k2
  · obtain ⟨⟨xs, h1⟩, h2⟩ := a3.pin m r hr
    have c1 : m ≠ i := fun z => by
      subst z
      unfold canSet at hci
      rw [h1] at hci
      cases hci
    have c2 : m ≠ j := fun z => by
      subst z
      unfold canSet at hcj
      rw [h1] at hcj
      cases hcj
    refine ⟨⟨xs, ?_⟩, by rw [k4 m c2]; exact h2⟩
    rw [List.getElem?_set_ne (Ne.symm c2), List.getElem?_set_ne (Ne.symm c1), List.getElem?_map, h1]
    rfl
  · rw [b4n b fun z => ?_]
    · exact G13.hg _ _ hb
    · have := a.ex _ _ hb
      rw [s0H b z] at this
      cases this
  · exact w4.fr b o (nS b o (fun z => hM (s0M b z)) (G13.fr b o hM hb)) (G13.fr b o hM hb)
  · rw [b4n b fun z => hM (s0M b z)]
    exact G13.sp b hM hb hh
theorem ss_free1 {u : TS} {G : Ds} (hC : SLf K te C) (hF : SKp K i tF F) (hG : SW i j 5000 N tG) (hR : SS K u G) : SS K (tSeq (tAsg te (gName i)) (tSeq tF (tSeq tG u))) (sSeq (sFree C i j F) G) := by
  have z : SS K (tSeq (tSeq (tAsg te (gName i)) (tSeq tF tG)) u) (sSeq (sFree C i j F) G) := ss_seq (ss_free hC hF hG) hR
  exact z
theorem ss_free2 {u tG2 : TS} {G : Ds} {N2 : Nat} (hC : SLf K te C) (hF : SKp K i tF F) (hG : SW i j 5000 N tG) (hG2 : SW i j N N2 tG2) (hR : SS K u G) : SS K (tSeq (tAsg te (gName i)) (tSeq tF (tSeq tG (tSeq tG2 u)))) (sSeq (sFree C i j F) G) := by
  have z : SS K (tSeq (tSeq (tAsg te (gName i)) (tSeq tF (tSeq tG tG2))) u) (sSeq (sFree C i j F) G) := ss_seq (ss_free hC hF (sw_seq hG hG2)) hR
  exact z
end
end Fd
end

section
set_option Elab.async false
set_option linter.all false
set_option maxRecDepth 100000
set_option maxHeartbeats 1000000
/-! Base i: how often an int stands in a list of ints and Nones. -/
variable [Fd.Uw]
namespace Fd
open PySem PySem.Spec PyProof.Rows L2 Evl Tb
def oV : Option Int → V
  | none => .non
  | some i => .int i
def oIs (z : Int) : Value → Bool
  | .int x _ => x == z
  | _ => false
theorem o_at {A : Around} {s : Shared} {z : Int} {t : Tok} : ∀ {us : List Value} {os : List (Option Int)}, Vals (os.map oV) us → ∀ y ∈ us, SeqAt.EqAt A s y (.int z t) (oIs z y)
  | _, [], .nil => fun y hy => by cases hy
  | _, none :: os, .cons e h => fun y hy => by
    rcases List.mem_cons.mp hy with c | c
    · subst c
      cases e
      exact SeqAt.EqAt.none_int z t
    · exact o_at h y c
  | _, some x :: os, .cons ⟨t', e⟩ h => fun y hy => by
    rcases List.mem_cons.mp hy with c | c
    · subst c e
      exact SeqAt.EqAt.int_int x t' z t
    · exact o_at h y c
theorem o_cnt {z : Int} : ∀ {us : List Value} {os : List (Option Int)}, Vals (os.map oV) us → us.countP (oIs z) = os.count (some z)
  | _, [], .nil => rfl
  | _, none :: os, .cons e h => by
    cases e
    rw [List.countP_cons, List.count_cons, o_cnt h]
    rfl
  | _, some x :: os, .cons ⟨t', e⟩ h => by
    subst e
    rw [List.countP_cons, List.count_cons, o_cnt h]
    show _ + (if (x == z) = true then 1 else 0) = _ + (if (some x == some z) = true then 1 else 0)
    congr 1
def rCntO (K : PySem.W.Frag) : V → List V → Hp → VK → Prop := fun x vs H Q => ∃ (p : Addr) (os : List (Option Int)) (z : Int), x = .ref p ∧ vs = [.int z] ∧ SqL K H p (os.map oV) ∧ Q (.int ((os.count (some z) : Nat) : Int)) H
theorem mk_cntO {X : Cx} {K : PySem.W.Frag} (hK : X.K = K) : MtR X "list.count" (rCntO K) := by
  subst hK
  intro pins s σ H x xs v us Q I rx rxs h
  obtain ⟨p, os, z, e1, e2, hs, q⟩ := h
  subst e1 e2
  cases rx
  obtain ⟨u, e3, ru⟩ := rxs.one
  subst e3
  obtain ⟨t, e4⟩ := ru
  subst e4
  obtain ⟨its, rv, ⟨⟨cls, dd, data, sl⟩, n, ho, hc, hdn, hd⟩, hlen⟩ := I.list hs
  simp only at hc hd
  subst hc hd
  refine call_meets PySem.F.slot_list_count ⟨_, ho, rfl⟩ PySem.F.entry_list_count (PySem.F.args_list_count_2 _ _)
    (SeqAt.list_countAt p its.toArray n dd sl (.int z t) (oIs z)) ⟨ho, fun y hy => o_at rv y (by simpa using hy), ?_⟩
  refine ⟨.int ((os.count (some z) : Nat) : Int), H, I.tok _, ⟨s.toks, ?_⟩, q⟩
  have ec : its.toArray.toList.countP (oIs z) = os.count (some z) := o_cnt rv
  rw [← ec]
def osOf : List PyData → Option (List (Option Int))
  | [] => some []
  | .none :: r => (osOf r).map (none :: ·)
  | .int i :: r => (osOf r).map (some i :: ·)
  | _ => none
def oP : Option Int → PyData
  | none => .none
  | some i => .int i
theorem osOf_some : ∀ {ds : List PyData} {os : List (Option Int)}, osOf ds = some os → ds = os.map oP
  | [], os, h => by
    cases h
    rfl
  | d :: ds, os, h => by
    unfold osOf at h
    split at h
    · cases ‹_ = []›
    · rename_i r he
      cases he
      obtain ⟨rs, h1, rfl⟩ := Option.map_eq_some_iff.mp h
      rw [osOf_some h1]
      rfl
    · rename_i i r he
      cases he
      obtain ⟨rs, h1, rfl⟩ := Option.map_eq_some_iff.mp h
      rw [osOf_some h1]
      rfl
    · cases h
theorem osOf_map : ∀ os : List (Option Int), osOf (os.map oP) = some os
  | [] => rfl
  | none :: os => by
    show (osOf (os.map oP)).map _ = _
    rw [osOf_map os]
    rfl
  | some i :: os => by
    show (osOf (os.map oP)).map _ = _
    rw [osOf_map os]
    rfl
def cntOD (xs ds : List PyData) : Option PyData := match ds with
  | [.int z] => (osOf xs).map fun os => .int ((os.count (some z) : Nat) : Int)
  | _ => none
section
variable {K : PySem.W.Frag}
theorem os_dq {B : Hp} : ∀ {os : List (Option Int)} {us : List V}, DqAll K B us (os.map oP) → us = os.map oV
  | [], _, .nil => rfl
  | none :: os, _, .cons h t => by
    rw [show oP none = .none from rfl] at h
    rw [h.non_of, os_dq t]
    rfl
  | some i :: os, _, .cons h t => by
    rw [show oP (some i) = .int i from rfl] at h
    rw [h.int_of, os_dq t]
    rfl
theorem mf_cntO : RMD K (rCntO K) cntOD := fun B H p us vs xs ds z x hp hu hv hF Q q => by
  unfold cntOD at hF
  split at hF
  · rename_i y
    obtain ⟨os, h1, rfl⟩ := Option.map_eq_some_iff.mp hF
    rw [osOf_some h1] at hu
    have e := os_dq hu
    subst e
    cases hv with
    | cons h2 h3 =>
      cases h3
      exact ⟨p, os, y, rfl, by rw [h2.int_of], ex_l x hp, q _ B H (.refl x) (.int _)⟩
  · cases hF
end
end Fd
end

section
set_option Elab.async false
set_option linter.all false
set_option maxRecDepth 100000
set_option maxHeartbeats 1000000
/-! Calls with keywords: f(a, .., k = b, ..), the keywords in the order of the last parameters. -/
variable [Fd.Uw]
namespace Fd
open PySem PySem.Spec PyProof.Rows L2 Evl Tb
def gk {α : Type} (n m : Nat) (us ws : List α) : List α := if us.length = n ∧ ws.length = m then us ++ ws else []
structure HasK (P : Program) (w : World) (K : PySem.W.Frag) (mg : Str → Option Value) (base : Heap) (CX : CXT) (x : Str) (k : Nat) (ps ks : List Str) (n m : Nat) (sp : Sp) : Prop where
  ex : ∃ (f : Addr) (fd : FuncData), FnOk P w K mg base CX k f fd ps sp ∧ mg x = some (.ref f) ∧ PySem.W.keepIn K (.ref f) = true ∧ KBinds K fd ps ks (gk n m) (gk n m)
theorem pe_hasK {X : Cx} {CX : CXT} {x : Str} {p pos : Pos} {e : Expr} {es : List Expr} {kws : List Keyword} {k : Nat} {ps ks : List Str} {n m : Nat} {sp : Sp} {t tk : TA} {E : XK} (F : HasK X.prog X.w X.K X.mg X.base CX x k ps ks n m sp) (hr : Room k X.A) (hg : Gl X x)
    (ha : PA X (e :: es) t) (hkw : PK X kws tk) (hx : Passes CX X E) (hall : (backToKw pos (keywordEach kws X.env)).all (·.1.isSome) = true := by rfl) (hks : (backToKw pos (keywordEach kws X.env)).filterMap (·.1) = ks := by rfl)
    (hdb : (x == ("__debug__" : Str)) = false := by decide) (he : starEach (e :: es) X.env = (false, eval e X.env) :: starEach es X.env := by rfl)
    (hpl : ((backTo pos (starEach (e :: es) X.env)).any (·.1) || (backToKw pos (keywordEach kws X.env)).any (·.1.isNone)) = false := by rfl) :
    PE X (.Call (.Name x p) (e :: es) kws pos) (tCallK sp (gk n m) E t tk) := by
  obtain ⟨f, fd, F, hm, hk, hb⟩ := F.ex
  exact pe_callK F hr hg hm hk hb hx ha hkw hall hks hdb he hpl
theorem vals_gk {n m : Nat} {vs zs : List V} {us ws : List Value} (h1 : Vals vs us) (h2 : Vals zs ws) : Vals (gk n m vs zs) (gk n m us ws) := by
  have l1 := h1.length
  have l2 := h2.length
  unfold gk
  by_cases c : us.length = n ∧ ws.length = m
  · rw [if_pos c, if_pos (by rw [l1, l2]; exact c)]
    exact h1.append h2
  · rw [if_neg c, if_neg (by rw [l1, l2]; exact c)]
    exact .nil
/-- a def with defaults, called with its last parameters by name -/
theorem fun_kb {K : PySem.W.Frag} {x qual : Str} {params : Arguments} {body : List Stmt} {scope : Scope} {dvs : List V} {kws : List (Str × V)} {f : Addr} {fd : FuncData} {ps ks : List Str} {n m : Nat} (F : FunD K x qual params body scope dvs kws f fd) (hd : dvs ≠ []) (hn : n + m = ps.length) (hp : 0 < n)
    (h : ∀ (T : Addr) (kV doc pm : Value) (an : Option Addr) (cdv ct : Value) (us ws its : List Value), us.length = n → ws.length = m → its.length = dvs.length →
      ∃ k, bindArgs (PySem.W.fnOf x qual params body scope (.ref T) kV doc pm an cdv ct) ⟨us, ks.zip ws⟩ = seqItems? (.ref T) >>= k ∧ k (some its.toArray) = pure (ps.zip (us ++ ws))) : KBinds K fd ps ks (gk n m) (gk n m) := by
  obtain ⟨oc, od, dV, kV, doc, pm, an, cdv, ct, osl, rfl, lk, hcd, hD, hK⟩ := F.ex
  rcases hD with ⟨e, _⟩ | ⟨_, T, o, its, q, rfl, lT, oT, rT⟩
  · exact absurd e hd
  · refine ⟨fun s us ws X hlen => ?_, vals_gk⟩
    have l1 : its.length = dvs.length := rT.length.symm
    by_cases c : us.length = n ∧ ws.length = m
    · have eg : gk n m us ws = us ++ ws := if_pos c
      rw [eg]
      obtain ⟨k, e1, e2⟩ := h T kV doc pm an cdv ct us ws its c.1 c.2 l1
      refine BindsTo.of_looks fun M => ?_
      rw [e1]
      exact looks_items X lT oT (.of_pure e2)
    · have eg : gk n m us ws = [] := if_neg c
      rw [eg] at hlen
      exfalso
      have : 0 = ps.length := hlen
      omega
def dCallK (n m : Nat) (F : List PyData → Option PyData) (fl fk : Dn (List PyData)) : Dn PyData := dBind fl fun ds => dBind fk fun es => if ds.length = n ∧ es.length = m then dLift (F (ds ++ es)) else fun _ => none
theorem se_callK {K : PySem.W.Frag} {n m : Nat} {ta tk : TA} {fl fk : Dn (List PyData)} {E : XK} {F : List PyData → Option PyData} (h : SA K ta fl) (hk : SA K tk fk) : SE K (tCallK (spF K (n + m) F) (gk n m) E ta tk) (dCallK n m F fl fk) := fun W hW σ e B H a d e' h' Q q => by
  obtain ⟨ds, e1, h1, h2⟩ := dBind_some h'
  obtain ⟨es, e2, h3, h4⟩ := dBind_some h2
  split at h4
  · rename_i hl
    obtain ⟨h5, rfl⟩ := dLift_some h4
    refine h W hW σ e B H a ds e1 h1 _ fun vs B1 H1 a1 g1 d1 => hk W hW σ e1 B1 H1 a1 es e' h3 _ fun zs B2 H2 a2 g2 d2 => ?_
    have l1 := DqAll.length d1
    have l2 := DqAll.length d2
    have eg : gk n m vs zs = vs ++ zs := if_pos ⟨by rw [l1]; exact hl.1, by rw [l2]; exact hl.2⟩
    rw [eg]
    exact ⟨B2, ds ++ es, d, a2.ex, by rw [List.length_append, hl.1, hl.2], (dpa_mono g2.go.hg d1).append d2, h5, fun v B3 H3 g3 hd => q v B3 H3 (a2.gr g3) ((g1.trans g2).trans (gx_gr g3)) hd⟩
  · cases h4
@[simp] theorem dCallK_e {n m : Nat} {F : List PyData → Option PyData} {fl fk : Dn (List PyData)} {e : En} : dCallK n m F fl fk e = dBind fl (fun ds => dBind fk fun es => if ds.length = n ∧ es.length = m then dLift (F (ds ++ es)) else fun _ => none) e := rfl
section
variable {K : PySem.W.Frag} {te : TE} {fl : Dn (List PyData)}
/-- f(..).append(a constant) -/
theorem ss_appC {v : V} (h : SL K te fl) : SS K (tDrop (tBM K "list" rAppend te (tCons (tC v) tNil))) (sAppN fl) := fun W hW σ e B H a r hr D q => by
  unfold sAppN at hr
  split at hr
  · rename_i xs e1 h1
    split at hr
    · rename_i hf
      cases hr
      refine h W hW σ e B H a xs e1 h1 _ fun p us B1 H1 a1 g1 p0 hp pB d1 => ⟨.inl ⟨rfl, us, sq_of hp⟩, p, us, v, rfl, rfl, hp, sz_lt ?_, ?_⟩
      · have := of_decide_eq_true hf
        rw [DqAll.length d1]
        omega
      · have no : ¬ Ow σ e1 p := fun z => (a.ow (g1.ow p z)).2.1 p0
        have g2 : Go W.M B H B1 (upd H1 p (.lst (us ++ [v]))) := Go.put (a.goM g1) p0
        exact q σ B1 _ (a1.oth pB no) g2
    · cases hr
  · cases hr
/-- f(..).clear() -/
def sClrN (fl : Dn (List PyData)) : Ds := fun e => match fl e with
  | some (_, e1) => some (.nx e1)
  | none => none
theorem ss_clrN (h : SL K te fl) : SS K (tDrop (tBM0 K "list" rClear te)) (sClrN fl) := fun W hW σ e B H a r hr D q => by
  unfold sClrN at hr
  split at hr
  · rename_i xs e1 h1
    cases hr
    refine h W hW σ e B H a xs e1 h1 _ fun p us B1 H1 a1 g1 p0 hp pB d1 => ⟨.inl ⟨rfl, us, sq_of hp⟩, p, us, rfl, rfl, hp, ?_⟩
    have no : ¬ Ow σ e1 p := fun z => (a.ow (g1.ow p z)).2.1 p0
    have g2 : Go W.M B H B1 (upd H1 p (.lst [])) := Go.put (a.goM g1) p0
    exact q σ B1 _ (a1.oth pB no) g2
  · cases hr
end
end Fd
end

section
set_option Elab.async false
set_option linter.all false
set_option maxRecDepth 100000
set_option maxHeartbeats 1000000
/-! dict(a list of rows of two ints, lists or tuples), beside dict(a tuple of pairs of ints). -/
variable [Fd.Uw]
namespace Tb
open PySem PySem.Spec PyProof.Rows L2 Evl
section
variable {X : Cx}
theorem rows_of {pins : List (Addr × Obj)} {σ : L2.St} {H : Hp} {s : Shared} (I : Inv X pins σ H s) : ∀ {ps : List Addr} {kvs : List (Key × V)}, Paired (fun p kv => Row X.K H p [kV kv.1, kv.2]) ps kvs →
    ∃ (ws : List (Value × Value)) (prs : List (Key × Value)), KV kvs prs ∧ ws.length = ps.length ∧ prs.length = ps.length ∧ ∀ (j : Nat) (k v : Value), ws[j]? = some (k, v) → ∃ (b : Addr) (q' : Key × Value), ps[j]? = some b ∧ prs[j]? = some q' ∧ v = q'.2 ∧ PairAt s.heap b k v ∧ keyIs q'.1 k = true
  | _, _, .nil => ⟨[], [], .nil, rfl, rfl, fun j k v e => by simp at e⟩
  | _, _, .cons (a := p) (b := kv) h t => by
    obtain ⟨ws, prs, r, hw, hl, hp⟩ := rows_of I t
    have one : ∃ u y, PairAt s.heap p u y ∧ RelV (kV kv.1) u ∧ RelV kv.2 y := by
      rcases h with h | h
      · obtain ⟨its, rv, pl, _⟩ := I.list h
        obtain ⟨u, y, ei, ru, ry⟩ := vals2 rv
        subst ei
        exact ⟨u, y, .inr pl.isList, ru, ry⟩
      · obtain ⟨its, rv, ht, _⟩ := I.tuple h
        obtain ⟨u, y, ei, ru, ry⟩ := vals2 rv
        subst ei
        exact ⟨u, y, .inl ht, ru, ry⟩
    obtain ⟨u, y, hat, ru, ry⟩ := one
    refine ⟨(u, y) :: ws, (kv.1, y) :: prs, .cons ⟨rfl, ry⟩ r, by rw [List.length_cons, List.length_cons, hw], by rw [List.length_cons, List.length_cons, hl], fun j k v e => ?_⟩
    cases j with
    | zero =>
      have e' : (u, y) = (k, v) := Option.some.inj e
      cases e'
      exact ⟨p, (kv.1, y), rfl, rfl, rfl, hat, kV_is (P := X.prog) (w := X.w) ru⟩
    | succ j =>
      obtain ⟨b, q', e1, e2, e3, e4, e5⟩ := hp j k v (by simpa using e)
      exact ⟨b, q', by simpa using e1, by simpa using e2, e3, e4, e5⟩
theorem call_dict_lst (hc : X.calm = true) : CallR X (.type "dict") (fun xs H Q => ∃ (a : Addr) (ps : List Addr) (kvs : List (Key × V)), xs = [V.ref a] ∧ SqL X.K H a (ps.map V.ref) ∧
    Paired (fun p kv => Row X.K H p [kV kv.1, kv.2]) ps kvs ∧ ∀ p, H p = none → Q (.ref p) (upd H p (.dK (mergeK [] kvs)))) := by
  intro pns st σ H xs us Q I r h
  obtain ⟨a, ps, kvs, rfl, ha, hp, q⟩ := h
  obtain ⟨u, rfl, rx⟩ := vals1 r
  cases rx
  obtain ⟨its, rv, pl, hz⟩ := I.list ha
  have ei := refs_at rv
  subst ei
  rw [List.length_map] at hz
  obtain ⟨ws, prs, rel, hwl, hl, hws⟩ := rows_of I hp
  obtain ⟨o, n, hget, hcl, hdn, hd2⟩ := pl
  let Ts : Nat → Addr := fun j => ps.getD j 0
  have ok : PlainSeq "list" st.heap a (ps.map Value.ref).toArray ∧ PairItems st.heap (ps.map Value.ref).toArray Ts ws := by
    refine ⟨⟨o, n, hget, hcl, hdn, hd2⟩, by simp [hwl], fun j k v e => ?_⟩
    obtain ⟨b, q', e1, e2, e3, e4, e5⟩ := hws j k v e
    have eT : Ts j = b := by
      show ps.getD j 0 = b
      rw [List.getD_eq_getElem?_getD, e1]
      rfl
    rw [eT]
    exact ⟨by simp [e1], e4⟩
  refine PySem.call_dict_pairs (knd := mixKind X.prog X.w) (kvs := prs) (PairArg.list a (ps.map Value.ref).toArray Ts ws) (I.ok.hd hc) ok ⟨by rw [hl, hwl], fun i k v e => ?_⟩ (by rw [hwl]; exact hz) fun h' tk hd' hk => ?_
  · obtain ⟨b, q', e1, e2, e3, e4, e5⟩ := hws i k v e
    exact ⟨q'.1, by rw [e2, e3], e5⟩
  · have hm : (st.heap.objs.size == sysModules) = false := beq_eq_false_iff_ne.mpr (Nat.ne_of_gt I.big)
    have hlen : (mergeK [] kvs).length ≤ sizeLine := Nat.le_trans (length_mergeK kvs []) (by rw [List.length_nil, Nat.zero_add, rel.length, hl]; exact hz)
    exact ⟨.ref st.heap.objs.size, upd H st.heap.objs.size (.dK (mergeK [] kvs)), I.laid (t' := tk) (fun b o z => hk b o (by simp) z) (Nat.le_refl _) (show ObjOk X.prog X.w _ _ _ (.dK (mergeK [] kvs)) from ⟨hlen, hm, merged [] prs, KV.merge rel .nil, hd'⟩), rfl, q _ (I.hok.fresh (Nat.le_refl _))⟩
end
end Tb
namespace Fd
open PySem PySem.Spec PyProof.Rows L2 Evl Tb
def rDictL (K : PySem.W.Frag) : List V → Hp → VK → Prop := fun xs H Q => ∃ (a : Addr) (ps : List Addr) (kvs : List (Key × V)), xs = [V.ref a] ∧ SqL K H a (ps.map V.ref) ∧
    Paired (fun p kv => Row K H p [kV kv.1, kv.2]) ps kvs ∧ ∀ p, H p = none → Q (.ref p) (upd H p (.dK (mergeK [] kvs)))
def rDictY (K : PySem.W.Frag) : List V → Hp → VK → Prop := fun xs H Q => rDictZ K xs H Q ∨ rDictL K xs H Q
theorem ck_dictY {X : Cx} {K : PySem.W.Frag} (h : X.K = K) (hc : X.calm = true) : CallR X (.type "dict") (rDictY K) := by
  subst h
  intro pns st σ H xs us Q I r h
  rcases h with h | h
  · exact Tb.call_dict_fz hc pns st σ H xs us Q I r h
  · exact Tb.call_dict_lst hc pns st σ H xs us Q I r h
def prsOfL : List PyData → Option (List (Int × Int))
  | [] => some []
  | .tuple [.int a, .int b] :: ds => (prsOfL ds).map ((a, b) :: ·)
  | .list [.int a, .int b] :: ds => (prsOfL ds).map ((a, b) :: ·)
  | _ => none
def dictYD : List PyData → Option PyData
  | [.tuple ds] => (prsOf ds).map fun ps => .dict (mkDict (ps.map ikD))
  | [.list ds] => (prsOfL ds).map fun ps => .dict (mkDict (ps.map ikD))
  | _ => none
section
variable {K : PySem.W.Frag} {B : Hp}
theorem two_ints {a b : Int} {xs : List V} (h : DqAll K B xs [.int a, .int b]) : xs = [.int a, .int b] := by
  cases h with
  | cons h1 t =>
    cases t with
    | cons h2 t =>
      cases t
      rw [h1.int_of, h2.int_of]
theorem prsL_kvs : ∀ {ds : List PyData} {ps : List (Int × Int)} {xs : List V}, DqAll K B xs ds → prsOfL ds = some ps → ∃ (as : List Addr) (kvs : List (Key × V)), xs = as.map V.ref ∧ Paired (fun p kv => Row K B p [kV kv.1, kv.2]) as kvs ∧ KVD K B kvs (ps.map ikD)
  | [], _, _, .nil, h => by
    cases h
    exact ⟨[], [], rfl, .nil, .nil⟩
  | d :: ds, ps, _, .cons hd t, h => by
    unfold prsOfL at h
    split at h
    · rename_i e
      cases e
    · rename_i a b ds' e
      cases e
      obtain ⟨ps', h1, rfl⟩ := Option.map_eq_some_iff.mp h
      obtain ⟨as, kvs, rfl, h2, h3⟩ := prsL_kvs t h1
      obtain ⟨p, xs, rfl, h4, h5⟩ := hd.tup_of
      rw [two_ints h5] at h4
      exact ⟨p :: as, (.inl a, .int b) :: kvs, rfl, .cons (.inr h4) h2, .cons ⟨rfl, .int _⟩ h3⟩
    · rename_i a b ds' e
      cases e
      obtain ⟨ps', h1, rfl⟩ := Option.map_eq_some_iff.mp h
      obtain ⟨as, kvs, rfl, h2, h3⟩ := prsL_kvs t h1
      obtain ⟨p, xs, rfl, h4, h5⟩ := hd.lst_of
      rw [two_ints h5] at h4
      exact ⟨p :: as, (.inl a, .int b) :: kvs, rfl, .cons (.inl h4) h2, .cons ⟨rfl, .int _⟩ h3⟩
    · cases h
theorem se_dictY {ta : TA} {fl : Dn (List PyData)} (h : SA K ta fl) : SE K (tExE (tCB (rDictY K) ta)) (dCb dictYD fl) := fun W hW σ e B H a d e' h' Q q => by
  obtain ⟨ds, e1, h1, h2⟩ := dBind_some h'
  obtain ⟨h3, rfl⟩ := dLift_some h2
  have fin : ∀ (B1 H1 : Hp) (p : Addr) (kvs : List (Key × V)) (ps : List (Int × Int)), At W σ e' B1 H1 → Gx σ e B H e' B1 H1 → KVD K B1 kvs (ps.map ikD) → d = .dict (mkDict (ps.map ikD)) → H1 p = none →
      ∃ (p' : Addr) (kvs' : List (Key × V)), V.ref p = .ref p' ∧ (upd H1 p (.dK (mergeK [] kvs))) p' = some (.dK kvs') ∧ (kvs' ≠ [] → Q (.ref p) (upd H1 p (.dK (mergeK [] kvs)))) ∧ (kvs' = [] → (p' == sysModules) = false → ∀ ep, Q (.ref p) (upd (upd H1 p (.dK (mergeK [] kvs))) p' (DicO p' #[] ep))) := by
    intro B1 H1 p kvs ps a1 g1 k8 ed hp
    subst ed
    have kd : ∀ o', KVD K (upd B1 p o') (mergeK [] kvs) (mkDict (ps.map ikD)) := fun o' => KVD.merge (k8.mono (Ex.new (fresh_back a1.ex hp))) .nil
    refine ⟨p, mergeK [] kvs, rfl, upd_same, fun hne => ?_, fun he hm ep => ?_⟩
    · have g : Gr B1 H1 (upd B1 p (.dK (mergeK [] kvs))) (upd H1 p (.dK (mergeK [] kvs))) := Gr.new a1.ex hp
      exact q _ _ _ (a1.gr g) (g1.trans (gx_gr g)) (KVD.dq hne upd_same (kd _))
    · have g : Gr B1 H1 (upd B1 p (DicO p #[] ep)) (upd H1 p (DicO p #[] ep)) := Gr.new a1.ex hp
      rw [upd_upd]
      have z := kd (DicO p #[] ep)
      rw [he] at z
      have ed : mkDict (ps.map ikD) = [] := by
        have := KVD.length z
        exact List.eq_nil_of_length_eq_zero this.symm
      rw [ed] at q
      exact q _ _ _ (a1.gr g) (g1.trans (gx_gr g)) (dq_empty K hm upd_same)
  unfold dictYD at h3
  split at h3
  case h_3 => cases h3
  · rename_i zs
    obtain ⟨ps, h4, rfl⟩ := Option.map_eq_some_iff.mp h3
    rw [prsOf_some h4] at h1
    refine h W hW σ e B H a _ e' h1 _ fun vs B1 H1 a1 g1 d1 => ?_
    cases d1 with
    | cons hv hr =>
      cases hr
      obtain ⟨b, xs, rfl, k1, k2, k3⟩ := hv.tup_ofP
      obtain ⟨o, k4, k5, k6⟩ := k3 (prs_tow ps)
      obtain ⟨as, kvs, rfl, k7, k8⟩ := prs_kvs k2
      exact .inl ⟨b, o, as, kvs, rfl, a1.ex _ _ k4, k5, k6, Paired.mapP k7 fun p kv z => ex_t a1.ex z, fun p hp => fin B1 H1 p kvs ps a1 g1 k8 rfl hp⟩
  · rename_i zs
    obtain ⟨ps, h4, rfl⟩ := Option.map_eq_some_iff.mp h3
    refine h W hW σ e B H a _ e' h1 _ fun vs B1 H1 a1 g1 d1 => ?_
    cases d1 with
    | cons hv hr =>
      cases hr
      obtain ⟨b, xs, rfl, k1, k2⟩ := hv.lst_of
      obtain ⟨as, kvs, rfl, k7, k8⟩ := prsL_kvs k2 h4
      exact .inr ⟨b, as, kvs, rfl, ex_l a1.ex k1, Paired.mapP k7 fun p kv z => row_mono a1.ex z, fun p hp => fin B1 H1 p kvs ps a1 g1 k8 rfl hp⟩
end
end Fd
end

section
set_option Elab.async false
set_option linter.all false
set_option maxRecDepth 100000
set_option maxHeartbeats 1000000
/-! Four names set at once through a tuple, lists of one's own among them. -/
variable [Fd.Uw]
namespace Fd
open PySem PySem.Spec PyProof.Rows L2 Evl Tb
theorem hv_len {K : PySem.W.Frag} {B1 H1 : Hp} : ∀ (is : List Nat) (as : List Ar) (e : En) (vs : List V) (ok : Addr → Prop), HvAll K B1 H1 ok vs as → ∀ e2, sSetsX is as e = some e2 → vs.length ≤ is.length
  | [], as, e, vs, ok, hv, e2, hs => by
    cases as with
    | nil => cases vs with
      | nil => exact Nat.le_refl _
      | cons v vs => exact hv.elim
    | cons a as => cases a <;> cases hs
  | i :: is, as, e, vs, ok, hv, e2, hs => by
    cases vs with
    | nil => exact Nat.zero_le _
    | cons v vs =>
      cases as with
      | nil => exact hv.elim
      | cons a as =>
        refine Nat.succ_le_succ ?_
        cases a with
        | d x =>
          unfold sSetsX at hs
          split at hs
          · exact hv_len is as _ vs _ hv.2 _ hs
          · cases hs
        | l x =>
          obtain ⟨p, us, _, _, _, _, _, h6⟩ := hv
          unfold sSetsX at hs
          split at hs
          · exact hv_len is as _ vs _ h6 _ hs
          · cases hs
        | q x =>
          obtain ⟨p, us, _, _, _, _, _, h6⟩ := hv
          unfold sSetsX at hs
          split at hs
          · exact hv_len is as _ vs _ h6 _ hs
          · cases hs
section
variable {K : PySem.W.Frag} {tr : TA}
theorem ss_parT4 {i j k l : Nat} {fx : Dn (List Ar)} (h : SX K tr fx) : SS K (tAsg (tTup tr) (gTup K 4 (gCons (gName i) (gCons (gName j) (gCons (gName k) (gCons (gName l) gNil)))))) (sParX fx [i, j, k, l]) := fun W hW σ e B H a r hr D q => by
  unfold sParX at hr
  split at hr
  · rename_i ds e1 h1
    obtain ⟨e2, h2, rfl⟩ := Option.map_eq_some_iff.mp hr
    refine h W hW σ e B H a ds e1 h1 _ fun vs B1 H1 a1 g1 d1 => ?_
    have hw : ∀ p, H1 p = none → vs.length = 4 ∧ ∃ σ', σ' = ([i, j, k, l].zip vs).foldl (fun s p => s.set p.1 (some p.2)) σ ∧ At W σ' e2 B1 (upd H1 p (.tup vs)) := fun p hp => by
      have nop : ¬ Ow σ e1 p := fun z => (a1.ow z).2.1 hp
      obtain ⟨h0, σ', k1, k2⟩ := setsX_ok [i, j, k, l] vs ds σ e1 e2 B1 _ _ (a1.oth (o := .tup vs) (fresh_back a1.ex hp) nop) (hW ▸ hv_upd hp d1) (fun b hb => ⟨a.nm b hb, fun z => (a.ow (g1.ow b z)).2.1 hb⟩) h2
      exact ⟨h0.symm, σ', k1, k2⟩
    have hl : vs.length ≤ 4 := hv_len [i, j, k, l] ds e1 vs _ d1 e2 h2
    refine ⟨sz_of (by omega), fun p hp => ?_⟩
    obtain ⟨h0, _, rfl, k2⟩ := hw p hp
    refine ⟨p, vs, rfl, st_of upd_same, h0, ?_⟩
    obtain ⟨v, w, x, y, rfl⟩ : ∃ v w x y, vs = [v, w, x, y] := match vs, h0 with
      | [v, w, x, y], _ => ⟨v, w, x, y, rfl⟩
    exact ⟨v, [w, x, y], rfl, w, [x, y], rfl, x, [y], rfl, y, [], rfl, rfl, q _ B1 _ k2 ((a.goM g1).trans (a1.goM ⟨(Go.refl _ B1 H1).put hp, fun _ h => h⟩))⟩
  · cases hr
end
end Fd
end

section
set_option Elab.async false
set_option linter.all false
set_option maxRecDepth 100000
set_option maxHeartbeats 1000000
/-! Sets of one's own (keys: ints and texts); the keys of a dict of one's own, one by one. -/
variable [Fd.Uw]
namespace Fd
open PySem PySem.Spec PyProof.Rows L2 Evl Tb
section
variable {K : PySem.W.Frag} {te : TE} {ta : TA} {f : Dn PyData} {fl : Dn (List PyData)}
/-- names = set() -/
def setU (i : Nat) (xs : List PyData) (e : En) : Option En := if canSet e i = true then some (e.set i (.u xs)) else none
def sAsgU (i : Nat) : Ds := fun e => (setU i [] e).map .nx
theorem ss_asgU {i : Nat} : SS K (tAsg (tCB (rSet0K Uw.P Uw.w) tNil) (gName i)) (sAsgU i) := fun W hW σ e B H a r hr D q => by
  unfold sAsgU at hr
  obtain ⟨e2, h2, rfl⟩ := Option.map_eq_some_iff.mp hr
  unfold setU at h2
  split at h2
  · rename_i hc
    cases h2
    refine ⟨rfl, fun p hp => ?_⟩
    have hB := fresh_back a.ex hp
    have hn : ¬ Ow σ e p := fun z => (a.ow z).2.1 hp
    exact q _ B _ ((a.oth hB hn).setC (so := .u []) (xs := .u []) rfl rfl (can_pn a hc) hn (a.nm p hp) hB upd_same ⟨fun _ => false, 0, rfl, fun k => by simp [keysU], Nat.zero_le _⟩) (a.goM ⟨(Go.refl _ B H).put hp, fun _ h => h⟩)
  · cases h2
def memK (k : Key) (xs : List PyData) : Bool := (keysU xs).any fun j => decide (j = k)
theorem memK_iff (k : Key) (xs : List PyData) : memK k xs = true ↔ k ∈ keysU xs := by
  unfold memK
  rw [List.any_eq_true]
  constructor
  · rintro ⟨j, h1, h2⟩
    rwa [← of_decide_eq_true h2]
  · exact fun h => ⟨k, h, decide_eq_true rfl⟩
/-- k in names, k not in names -/
def dInS (i : Nat) (neg : Bool) (f : Dn PyData) : Dn PyData := dBind f fun x e1 => match e1[i]? with
  | some (.u xs) => match keyI x with
    | some k => some (.bool (if neg then !memK k xs else memK k xs), e1)
    | none => none
  | _ => none
theorem se_inS {i : Nat} {neg : Bool} (h : SE K te f) : SE K (tOp (rSInK Uw.P Uw.w neg) te (tVar i)) (dInS i neg f) := fun W hW σ e B H a d e' h' Q q => by
  obtain ⟨x, e1, h1, h2⟩ := dBind_some h'
  split at h2
  case h_2 => cases h2
  rename_i xs hi
  split at h2
  case h_2 => cases h2
  rename_i k hk
  cases h2
  refine h W hW σ e B H a x _ h1 _ fun v B1 H1 a1 g1 d1 => ?_
  obtain ⟨p, o, k1, kM, k3, k4, S, n, rfl, k5, k6⟩ := a1.own i _ (.u xs) hi rfl
  have hv := keyI_v d1 hk
  subst hv
  refine ⟨_, k1, k, p, S, n, rfl, rfl, k4, ?_⟩
  have e : S k = memK k xs := by
    rw [Bool.eq_iff_iff, k5 k, memK_iff]
  rw [e]
  exact q _ B1 H1 a1 g1 (.bl _)
/-- names.add(x) -/
def sAddU (i : Nat) (f : Dn PyData) : Ds := fun e => match e[i]? with
  | some (.u _) => match f e with
    | some (x, e1) => match e1[i]? with
      | some (.u xs) => match keyI x with
        | some _ => if decide (xs.length < 4000) = true then some (.nx (e1.set i (.u (xs ++ [x])))) else none
        | none => none
      | _ => none
    | none => none
  | _ => none
theorem keysU_snoc {xs : List PyData} {x : PyData} {k : Key} (h : keyI x = some k) (j : Key) : j ∈ keysU (xs ++ [x]) ↔ (j ∈ keysU xs ∨ j = k) := by
  unfold keysU
  rw [List.filterMap_append, List.mem_append]
  simp [h]
theorem ss_addU {i : Nat} (h : SE K te f) : SS K (tDrop (tSAddK Uw.P Uw.w (tVar i) (tCons te tNil))) (sAddU i f) := fun W hW σ e B H a rs hrs D q => by
  unfold sAddU at hrs
  split at hrs
  case h_2 => cases hrs
  rename_i xs0 i0
  split at hrs
  case h_2 => cases hrs
  rename_i x e1 h1
  split at hrs
  case h_2 => cases hrs
  rename_i xs i1
  split at hrs
  case h_2 => cases hrs
  rename_i k hk
  split at hrs
  case isFalse => cases hrs
  rename_i hz
  cases hrs
  have hz := of_decide_eq_true hz
  obtain ⟨p0, o0, k1, _, _, k4, S0, n0, rfl, _⟩ := a.own i _ (.u xs0) i0 rfl
  refine ⟨_, k1, ⟨p0, S0, n0, rfl, k4⟩, h W hW σ e B H a x e1 h1 _ fun v B1 H1 a1 g1 d1 => ?_⟩
  obtain ⟨p, o, m1, mM, m3, m4, S, n, rfl, m5, m6⟩ := a1.own i _ (.u xs) i1 rfl
  rw [k1] at m1
  cases m1
  have hv := keyI_v d1 hk
  subst hv
  have room : n + 1 < scanBound := by
    have : (4001 : Nat) < scanBound := by decide
    omega
  refine ⟨p0, k, S, n, rfl, rfl, m4, room, ?_⟩
  obtain ⟨a3, g3⟩ := a1.putC (s' := .u (xs ++ [x])) (ys := .u (xs ++ [x])) (vs := SetK Uw.P Uw.w p0 (fun j => S j || decide (j = k)) (if S k = true then n else n + 1)) i1 rfl rfl rfl k1 ⟨_, _, rfl, fun j => by
    rw [Bool.or_eq_true, keysU_snoc hk, m5 j, decide_eq_true_iff], by
    rw [List.length_append]
    show _ ≤ xs.length + 1
    split <;> omega⟩
  exact q σ B1 _ a3 ((a.goM g1).trans g3)
end
/-! ### the keys of a dict of one's own -/
end Fd
namespace L2
open PySem PySem.Spec PyProof.Rows Evl
theorem ck_set0 {X : Cx} {P : Program} {w : World} (h : X.prog = P) (hw : X.w = w) : CallR X (.type "set") (rSet0K P w) := by
  subst h hw
  exact cr_set0K
theorem ok_sin {X : Cx} {P : Program} {w : World} (h : X.prog = P) (hw : X.w = w) : OpR X (compareOp .In) (rSInK P w false) := by
  subst h hw
  exact or_sinK
theorem ok_snotin {X : Cx} {P : Program} {w : World} (h : X.prog = P) (hw : X.w = w) : OpR X (compareOp .NotIn) (rSInK P w true) := by
  subst h hw
  exact or_snotinK
def iKeysF (td : TE) : TI := fun σ H R => td σ H fun x H1 => ∃ d, x = .ref d ∧ ((∃ kvs, H1 d = some (.dK kvs) ∧ ∀ o, R (Itk d o kvs) (upd H1 d (.frz o (.dK kvs)))) ∨
  ∃ es ep, (d == sysModules) = false ∧ H1 d = some (DicO d es ep) ∧ (Program → World → R (Ikq d es ep) H1))
theorem pi_keysF {X : Cx} {tg e : Expr} {td : TE} (he : PE X e td) : PI X tg e (iKeysF td) := by
  refine ⟨fun pins s σ H R I h => ?_⟩
  refine thn (he.run pins s σ H _ I h) fun u s1 ⟨x, H1, I1, rx, d, ex, q⟩ => ?_
  subst ex
  obtain rfl : u = Value.ref d := rx
  rcases q with ⟨kvs, hd, q⟩ | ⟨es, ep, hm, hd, q⟩
  · obtain ⟨o, I2⟩ := I1.lock hd trivial
    obtain ⟨hs, hgd, hx, es, ep, vs, hdt, hsz, kv, hm⟩ := I2.frzK upd_same
    refine iter_keys hs hgd hx hdt (pi_one (tk := s1.toks) I2 _ (turn_keys _ hdt) ⟨_, Heap.get?_push_size _ rfl, rfl, ?_⟩ (q o))
    rw [hsz] <;> rfl
  · have raw := (show ObjOk X.prog X.w H1 s1.heap d (DicO d es ep) from I1.hok d _ hd).1
    exact wpAny_pyIter_dict_raw hm raw ⟨_, [s1.heap.objs.size], _, _, H1, rfl, I1.kept (t' := s1.toks) (fun _ _ z => Heap.get?_push_of_some _ z), turn_kq s1.heap.objs.size, ⟨_, Heap.get?_push_size _ rfl, rfl, rfl⟩, fun b hb => by
      rw [List.mem_singleton.mp hb]
      exact I1.fpOk (Nat.le_refl _) (I1.hok.fresh (Nat.le_refl _)), q X.prog X.w⟩
end L2
namespace Fd
open PySem PySem.Spec PyProof.Rows L2 Evl Tb
theorem At.frzC {W : Wo} {σ : L2.St} {e : En} {B H : Hp} {i : Nat} {so : Sl} {xs : Cn} {p : Addr} {u u2 : HO} (a : At W σ e B H) (hi : e[i]? = some so) (ho : so.own = some xs) (hnp : so.isP = false)
    (g1 : σ[i]? = some (some (.ref p))) (g3 : B p = none) (g4 : H p = some u) {da : PyData} (hd : Dq W.K (upd B p u2) (.ref p) da) :
    At W σ (e.set i (.d da)) (upd B p u2) (upd H p u2) ∧ Gx σ e B H (e.set i (.d da)) (upd B p u2) (upd H p u2) := by
  have hs : ∀ (j : Nat) s, (e.set i (.d da))[j]? = some s → (j = i ∧ s = .d da) ∨ (j ≠ i ∧ e[j]? = some s) := fun j s h => by
    by_cases c : j = i
    · subst c
      rw [getElem?_set_eq hi] at h
      cases h
      exact .inl ⟨rfl, rfl⟩
    · rw [List.getElem?_set_ne (Ne.symm c)] at h
      exact .inr ⟨c, h⟩
  have oth : ∀ (j : Nat) s ys, (e.set i (.d da))[j]? = some s → s.own = some ys → j ≠ i ∧ e[j]? = some s := fun j s ys h1 h2 => by
    rcases hs j s h1 with ⟨_, rfl⟩ | h
    · cases h2
    · exact h
  have owp : Ow σ e p := ⟨i, _, xs, hi, ho, g1⟩
  refine ⟨⟨fun b o h => ?_, fun b hb => ?_, by rw [List.length_set]; exact a.len, fun j x h => ?_, fun j s ys h1 h2 => ?_, fun j k s t q ys zs h1 h2 h3 h4 h5 h6 => ?_, fun j b hb => ?_⟩, ⟨⟨Ex.new g3, fun b o hn h => ?_, fun b hb => ?_, fun b hn hb hh => ?_⟩, fun b hb => ?_⟩⟩
  · by_cases c : b = p
    · subst c
      rw [upd_same] at h ⊢
      exact h
    · rw [upd_ne c] at h ⊢
      exact a.ex b o h
  · by_cases c : b = p
    · subst c
      rw [upd_same] at hb
      cases hb
    · rw [upd_ne c] at hb
      exact a.nm b hb
  · rcases hs j _ h with ⟨rfl, e1⟩ | ⟨_, h⟩
    · cases e1
      exact ⟨_, g1, hd⟩
    · obtain ⟨v, k1, k2⟩ := a.dat j x h
      exact ⟨v, k1, dp_mono (Ex.new g3) k2⟩
  · obtain ⟨ne, h1⟩ := oth j s ys h1 h2
    obtain ⟨q, ws, k1, k2, k3, k4, k5⟩ := a.own j s ys h1 h2
    have qp : q ≠ p := fun z => by
      subst z
      exact ne (a.sep j i s _ q ys xs h1 h2 hi ho k1 g1)
    exact ⟨q, ws, k1, k2, by rw [upd_ne qp]; exact k3, by rw [upd_ne qp]; exact k4, cn_mono (Ex.new g3) k5⟩
  · exact a.sep j k s t q ys zs (oth j s ys h1 h2).2 h2 (oth k t zs h3 h4).2 h4 h5 h6
  · obtain ⟨⟨ys, h1⟩, h2⟩ := a.pin j b hb
    have ne : j ≠ i := fun z => by
      subst z
      rw [h1] at hi
      cases hi
      cases hnp
    exact ⟨⟨ys, by rw [List.getElem?_set_ne (Ne.symm ne)]; exact h1⟩, h2⟩
  · by_cases c : b = p
    · subst c
      exact absurd owp hn
    · rw [upd_ne c]
      exact h
  · by_cases c : b = p
    · subst c
      rw [upd_same] at hb
      cases hb
    · rw [upd_ne c] at hb
      exact hb
  · by_cases c : b = p
    · subst c
      exact absurd owp hn
    · rw [upd_ne c]
      exact hb
  · obtain ⟨j, s, ys, h1, h2, h3⟩ := hb
    exact ⟨j, s, ys, (oth j s ys h1 h2).2, h2, h3⟩
/-- for k in d, d one's own, which does not change any more -/
def dKeysO (i : Nat) : Dn (List PyData) := fun e => match e[i]? with
  | some (.q ds) => if ds.all (fun d => (keyI d.1).isSome) = true then some (ds.map (·.1), e.set i (.d (.dict ds))) else none
  | _ => none
theorem keyI_dq {K : PySem.W.Frag} {B : Hp} {k : PyData} {x : Key} (h : keyI k = some x) : Dq K B (kV x) k := by
  unfold keyI at h
  split at h
  · cases h
    exact .int _
  · cases h
    exact .str _
  · cases h
theorem kvd_get {K : PySem.W.Frag} {B : Hp} : ∀ {kvs : List (Key × V)} {ds : List (PyData × PyData)}, KVD K B kvs ds → (∀ d ∈ ds, (keyI d.1).isSome = true) → ∀ (i : Nat) (k : Key) (v : V), kvs[i]? = some (k, v) → ∃ d, ds[i]? = some d ∧ keyI d.1 = some k
  | _, _, .nil, _, i, k, v, h => by simp at h
  | x :: kvs, d :: ds, .cons h t, hk, 0, k, v, e => by
    cases e
    refine ⟨d, rfl, ?_⟩
    obtain ⟨j, hj⟩ := Option.isSome_iff_exists.mp (hk d (List.mem_cons_self ..))
    have := keyI_key hj
    have h1 : keyD d.1 = some (nkey k) := h.1
    rw [h1] at this
    rw [hj, nkey_inj (Option.some.inj this)]
  | x :: kvs, d :: ds, .cons h t, hk, i + 1, k, v, e => by
    simpa using kvd_get t (fun d hd => hk d (List.mem_cons_of_mem _ hd)) i k v (by simpa using e)
section
variable {K : PySem.W.Frag}
theorem si_keysO {i : Nat} : SI K (iKeysF (tVar i)) (dKeysO i) := fun W hW σ e B H a ds e' h' R q => by
  unfold dKeysO at h'
  split at h'
  case h_2 => cases h'
  rename_i es hi
  split at h'
  case isFalse => cases h'
  rename_i hk
  cases h'
  have hk := List.all_eq_true.mp hk
  obtain ⟨p, o, k1, kM, k3, k4, k5⟩ := a.own i _ (.q es) hi rfl
  have k5 : OwnD K B p o es := hW ▸ k5
  refine ⟨_, k1, p, rfl, ?_⟩
  rcases k5 with ⟨ks, rfl, r, hne⟩ | ⟨m0, m2, aes, ep, kvs, rfl, m3, m7⟩
  · refine .inl ⟨ks, k4, fun od => ?_⟩
    have hd : Dq W.K (upd B p (.frz od (.dK ks))) (.ref p) (.dict es) := hW.symm ▸ KVD.dqF hne (.inr ⟨od, upd_same⟩) (r.mono (Ex.new k3))
    obtain ⟨a2, g2⟩ := a.frzC (u2 := .frz od (.dK ks)) hi rfl rfl k1 k3 k4 hd
    have hl := KVD.length r
    refine q _ _ _ a2 g2 ⟨fun j B1 H1 x y hj => ⟨y _ _ (x _ _ upd_same), by rw [List.length_map] at hj; omega⟩, fun B1 H1 x y => ⟨y _ _ (x _ _ upd_same), by rw [List.length_map]; omega⟩, fun j d B1 H1 v H2 x y hd hy => ?_⟩
    obtain ⟨rfl, k, w, h1, rfl⟩ := hy
    obtain ⟨d', h2, h3⟩ := kvd_get r hk j k w h1
    rw [List.getElem?_map, h2] at hd
    cases hd
    exact ⟨B1, .refl y, keyI_dq h3⟩
  · have he : es = [] := by
      cases es with
      | nil => rfl
      | cons d es =>
        exfalso
        cases m7 with
        | cons h t =>
          obtain ⟨j, hj⟩ := Option.isSome_iff_exists.mp (hk d (List.mem_cons_self ..))
          have e1 := keyI_key hj
          rw [h.1] at e1
          obtain ⟨ys, _, _, hr, _⟩ := m3
          cases hr with
          | cons z t2 =>
            have e2 := z.2
            rw [← z.1.1, Option.some.inj e1] at e2
            cases j <;> cases e2
    subst he
    have hsz : aes.size = 0 := by
      obtain ⟨ys, _, _, hr, hz⟩ := m3
      rw [hz, EntR.length hr, KN.length m7]
      rfl
    have hnil : aes = #[] := Array.eq_empty_of_size_eq_zero hsz
    subst hnil
    have hd : Dq W.K (upd B p (DicO p #[] ep)) (.ref p) (.dict []) := dq_empty W.K m0 upd_same
    obtain ⟨a2, g2⟩ := a.frzC (u2 := DicO p #[] ep) hi rfl rfl k1 k3 k4 hd
    have hu : upd H p (DicO p #[] ep) = H := by
      funext b
      by_cases c : b = p
      · subst c
        rw [upd_same, k4]
      · rw [upd_ne c]
    rw [hu] at a2 g2
    exact .inr ⟨#[], ep, m0, k4, fun _ _ => q _ _ _ a2 g2 ⟨fun j B1 H1 x y hj => (by simp at hj), fun B1 H1 x y => ⟨y _ _ (x _ _ upd_same), Nat.le_refl _⟩, fun j d B1 H1 v H2 x y hd hy => (by simp at hd)⟩⟩
end
end Fd
end

section
set_option Elab.async false
set_option linter.all false
set_option maxRecDepth 100000
set_option maxHeartbeats 1000000
/-! Dicts of one's own from comprehensions and from dict(..); sorted(d). -/
variable [Fd.Uw]
namespace Fd
open PySem PySem.Spec PyProof.Rows L2 Evl Tb
/-- {k: v for ..}, to be changed -/
def dDcO (it : Dn (List PyData)) (g : PyData → En → Option En) (t : Dn Bool) (fk fv : Dn PyData) (vs : List Nat) : Dn (List (PyData × PyData)) := fun e => match it e with
  | none => none
  | some (ds, e1) => if (vsFree e1 vs && fewer ds) = true then (match runDc g t fk fv vs ds [] (wipeE e1 vs) with
    | none => none
    | some (ys, e2) => some (ys, restE e1 e2 vs)) else none
section
variable {K : PySem.W.Frag} {wi : TI} {g : TG} {tt : TT} {tk tv : TE} {sl vs : List Nat} {it : Dn (List PyData)} {fg : PyData → En → Option En} {ft : Dn Bool} {fk fv : Dn PyData}
theorem sq_dc (hi : SI K wi it) (hg : SG K g sl fg) (ht : ST K tt ft) (hk : SE K tk fk) (he : SE K tv fv) (hs : ∀ i ∈ sl, i ∈ vs) : SDq K (tExE (tDc wi g tt tk tv vs)) (dDcO it fg ft fk fv vs) := fun W hW σ e B H a r e' h' Q q => by
  unfold dDcO at h'
  split at h'
  · cases h'
  rename_i ds e1 h1
  by_cases hc : (vsFree e1 vs && fewer ds) = true
  case neg =>
    rw [if_neg hc] at h'
    cases h'
  rw [if_pos hc] at h'
  rw [Bool.and_eq_true] at hc
  obtain ⟨hf, hlen⟩ := hc
  have hlen := of_decide_eq_true hlen
  split at h'
  · cases h'
  rename_i ys e2 h2
  cases h'
  refine hi W hW σ e B H a ds e1 h1 _ fun J B1 H1 a1 g1 wk => fun Dl hD => ?_
  have hpn := free_pn a1 hf
  have noD : ¬ Ow σ e1 Dl := fun z => (a1.ow z).2.1 hD
  have BD : B1 Dl = none := fresh_back a1.ex hD
  have aw : At W (L2.wipe σ vs) (wipeE e1 vs) B1 H1 := a1.wipe hpn
  refine ⟨fun i m H' => ∃ (e' : En) (B' : Hp) (acc : List (Key × V)) (accd : List (PyData × PyData)), At W (L2.wipe σ vs) e' B' H' ∧ Go (Ow σ e1) B1 H1 B' H' ∧ (∀ b, Ow (L2.wipe σ vs) e' b → Ow σ e1 b) ∧ H' Dl = some (.dK acc) ∧ B' Dl = none ∧ KVD K B' acc accd ∧ i ≤ ds.length ∧ m = ds.length - i ∧
    runDc fg ft fk fv vs (ds.drop i) accd e' = some (r, e2) ∧ accd.length ≤ i, ⟨_, _, B1, [], [], aw.oth BD (fun z => noD (ow_wipe z)), (Go.refl _ _ _).put hD, fun b => ow_wipe, upd_same, BD, .nil, Nat.zero_le _, rfl, h2, Nat.le_refl _⟩, ?_⟩
  rintro i m H' ⟨e', B', acc, accd, a', g', o', hl', hB', hd', hi', rfl, hr', hal⟩
  by_cases hlt : i < ds.length
  · refine .inr ⟨wk.go i B' H' g'.hg a'.ex hlt, fun H2 => ∃ (e' : En) (B' : Hp) (acc : List (Key × V)) (accd : List (PyData × PyData)), At W (L2.wipe σ vs) e' B' H2 ∧ Go (Ow σ e1) B1 H1 B' H2 ∧ (∀ b, Ow (L2.wipe σ vs) e' b → Ow σ e1 b) ∧ H2 Dl = some (.dK acc) ∧ B' Dl = none ∧ KVD K B' acc accd ∧
      runDc fg ft fk fv vs (ds.drop (i + 1)) accd e' = some (r, e2) ∧ accd.length ≤ i + 1, ?_, ?_⟩
    · rintro H2 ⟨e', B', acc, accd, p1, p2, p3, p4, p5, p6, p7, p9⟩
      exact ⟨ds.length - (i + 1), by omega, e', B', acc, accd, p1, p2, p3, p4, p5, p6, hlt, rfl, p7, p9⟩
    intro x H2 hy
    obtain ⟨B2, gr, hdx⟩ := wk.yl i ds[i] B' H' x H2 g'.hg a'.ex (List.getElem?_eq_getElem hlt) hy
    rw [List.drop_eq_getElem_cons hlt] at hr'
    unfold runDc at hr'
    have a2 := a'.gr gr
    have g2 : Go (Ow σ e1) B1 H1 B2 H2 := g'.trans (.gr gr)
    split at hr'
    · cases hr'
    rename_i e3 h3
    refine hg W hW (L2.wipe σ vs) e' B2 H2 x _ a2 hdx e3 h3 _ fun σ3 a3 o3 w3 l3 => ?_
    have sw : L2.wipe σ3 vs = L2.wipe σ vs := by
      rw [← wipe_wipe σ vs]
      exact wipe_same l3 fun j hj => w3 j fun z => hj (hs j z)
    refine ⟨sw, ?_⟩
    have o3' : ∀ b, Ow σ3 e3 b → Ow σ e1 b := fun b hb => o' b (o3 b hb)
    have no3 : ¬ Ow σ3 e3 Dl := fun z => noD (o3' _ z)
    have hl2 : H2 Dl = some (.dK acc) := gr.h12 _ _ hl'
    have hne2 : H2 Dl ≠ none := by rw [hl2]; exact fun z => nomatch z
    have hB2 : B2 Dl = none := gr.sep Dl hB' (by rw [hl']; exact fun z => nomatch z)
    split at hr'
    · cases hr'
    · rename_i e4 h4
      refine ht W hW σ3 e3 B2 H2 a3 _ e4 h4 _ fun B4 H4 a4 g4 => ?_
      rw [if_neg Bool.false_ne_true]
      have a5 := a4.wipe hpn
      rw [sw] at a5
      refine ⟨wipeE e4 vs, B4, acc, accd, a5, g2.trans (g4.go.mono o3'), fun b hb => o3' b (g4.ow b ?_), g4.go.fr _ _ no3 hl2, g4.go.sp Dl no3 hB2 hne2, hd'.mono (gr.hg.trans g4.go.hg), hr', by omega⟩
      rw [← sw] at hb
      exact ow_wipe hb
    · rename_i e4 h4
      refine ht W hW σ3 e3 B2 H2 a3 _ e4 h4 _ fun B4 H4 a4 g4 => ?_
      rw [if_pos rfl]
      split at hr'
      · cases hr'
      rename_i y e5 h5
      split at hr'
      · cases hr'
      rename_i kk hkk
      split at hr'
      · cases hr'
      rename_i z e6 h6
      have hl4 := g4.go.fr _ _ no3 hl2
      have hB4 := g4.go.sp Dl no3 hB2 hne2
      have no4 : ¬ Ow σ3 e4 Dl := fun z => no3 (g4.ow _ z)
      refine hk W hW σ3 e4 B4 H4 a4 y e5 h5 _ fun w B5 H5 a5 g5 d5 => ?_
      have hl5 := g5.go.fr _ _ no4 hl4
      have hB5 := g5.go.sp Dl no4 hB4 (by rw [hl4]; exact fun z => nomatch z)
      have no5 : ¬ Ow σ3 e5 Dl := fun z => no4 (g5.ow _ z)
      refine he W hW σ3 e5 B5 H5 a5 z e6 h6 _ fun v B6 H6 a6 g6 d6 => ?_
      have hl6 := g6.go.fr _ _ no5 hl5
      have hB6 := g6.go.sp Dl no5 hB5 (by rw [hl5]; exact fun z => nomatch z)
      have no6 : ¬ Ow σ3 e6 Dl := fun z => no5 (g6.ow _ z)
      have hal2 := hd'.length
      have a7 := (a6.oth (o := .dK (putK acc kk v)) hB6 no6).wipe hpn
      rw [sw] at a7
      refine ⟨acc, kk, keyI_v d5 hkk, hl6, sz_lt (by omega), wipeE e6 vs, B6, putK acc kk v, putD accd y z, a7, Go.put (((g2.trans (g4.go.mono o3')).trans (g5.go.mono fun b hb => o3' b (g4.ow b hb))).trans (g6.go.mono fun b hb => o3' b (g4.ow b (g5.ow b hb)))) hD, fun b hb => o3' b (g4.ow b (g5.ow b (g6.ow b ?_))), upd_same, hB6, ?_, hr', ?_⟩
      · rw [← sw] at hb
        exact ow_wipe hb
      · exact (hd'.mono (((gr.hg.trans g4.go.hg).trans g5.go.hg).trans g6.go.hg)).put (keyI_key hkk) d6
      · have := putD_len accd y z
        omega
  · have ei : i = ds.length := by omega
    subst ei
    rw [List.drop_length] at hr'
    unfold runDc at hr'
    cases hr'
    refine .inl ⟨wk.st B' H' g'.hg a'.ex, ?_⟩
    have ar := a1.rest hf g'.hg a'
    have gx : Gx σ e B H (restE e1 e2 vs) B' H' := g1.trans ⟨g', fun b hb => o' b (ow_rest hf hb)⟩
    have no : ¬ Ow σ (restE e1 e2 vs) Dl := fun z => noD (o' _ (ow_rest hf z))
    have h0 := g1.go.dm Dl hD
    refine ⟨Dl, acc, rfl, hl', fun hne => q Dl (.dK acc) B' H' ar gx h0 hl' hB' (.inl ⟨acc, rfl, hd', hne⟩), fun he hm ep => ?_⟩
    subst he
    cases hd'
    exact q Dl (DicO Dl #[] ep) B' _ (ar.oth (o := DicO Dl #[] ep) hB' no) ⟨gx.go.put h0, gx.ow⟩ h0 upd_same hB' (own_new hm)
end
/-! ### dict(a tuple of pairs of ints), to be changed -/
def dictZO : List PyData → Option (List (PyData × PyData))
  | [.tuple ds] => (prsOf ds).map fun ps => mkDict (ps.map ikD)
  | _ => none
def dCbQ (F : List PyData → Option (List (PyData × PyData))) (fl : Dn (List PyData)) : Dn (List (PyData × PyData)) := dBind fl fun ds => dLift (F ds)
section
variable {K : PySem.W.Frag}
theorem sq_dictZ {ta : TA} {fl : Dn (List PyData)} (h : SA K ta fl) : SDq K (tExE (tCB (rDictZ K) ta)) (dCbQ dictZO fl) := fun W hW σ e B H a d e' h' Q q => by
  obtain ⟨ds, e1, h1, h2⟩ := dBind_some h'
  obtain ⟨h3, rfl⟩ := dLift_some h2
  unfold dictZO at h3
  split at h3
  case h_2 => cases h3
  rename_i zs
  obtain ⟨ps, h4, rfl⟩ := Option.map_eq_some_iff.mp h3
  rw [prsOf_some h4] at h1
  refine h W hW σ e B H a _ e' h1 _ fun vs B1 H1 a1 g1 d1 => ?_
  cases d1 with
  | cons hv hr =>
    cases hr
    obtain ⟨b, xs, rfl, k1, k2, k3⟩ := hv.tup_ofP
    obtain ⟨o, k4, k5, k6⟩ := k3 (prs_tow ps)
    obtain ⟨as, kvs, rfl, k7, k8⟩ := prs_kvs k2
    refine ⟨b, o, as, kvs, rfl, a1.ex _ _ k4, k5, k6, Paired.mapP k7 fun p kv z => ex_t a1.ex z, fun p hp => ?_⟩
    have kd : KVD K B1 (mergeK [] kvs) (mkDict (ps.map ikD)) := KVD.merge k8 .nil
    have hB := fresh_back a1.ex hp
    have hn : ¬ Ow σ e' p := fun z => (a1.ow z).2.1 hp
    have h0 := g1.go.dm p hp
    refine ⟨p, mergeK [] kvs, rfl, upd_same, fun hne => ?_, fun he hm ep => ?_⟩
    · exact q p _ B1 _ (a1.oth hB hn) ⟨g1.go.put h0, g1.ow⟩ h0 upd_same hB (.inl ⟨_, rfl, kd, hne⟩)
    · rw [upd_upd]
      rw [he] at kd
      have ed : mkDict (ps.map ikD) = [] := by
        have := KVD.length kd
        exact List.eq_nil_of_length_eq_zero this.symm
      rw [ed] at q
      exact q p _ B1 _ (a1.oth hB hn) ⟨g1.go.put h0, g1.ow⟩ h0 upd_same hB (own_new hm)
end
end Fd
end

section
set_option Elab.async false
set_option linter.all false
set_option maxRecDepth 100000
set_option maxHeartbeats 1000000
/-! sorted(d), list(d): the keys of a dict, the empty one too. -/
variable [Fd.Uw]
namespace L2
open PySem PySem.Spec PyProof.Rows Evl
/-- what stands at a is a dict with these keys (ints, texts), or an empty one -/
def HasD (H : Hp) (a : Addr) (kvs : List (Key × V)) : Prop := Rd H a (.dK kvs) ∨ (kvs = [] ∧ (a == sysModules) = false ∧ ∃ ep, H a = some (DicO a #[] ep))
section
variable {X : Cx} {pins : List (Addr × Obj)} {σ : L2.St} {H : Hp} {s : Shared} {a : Addr} {kvs : List (Key × V)}
theorem has_at (I : Inv X pins σ H s) (h : HasD H a kvs) : kvs.length ≤ sizeLine ∧ (a == sysModules) = false ∧ ∃ vs, KV kvs vs ∧ s.heap.DictOf (mixKind X.prog X.w) a vs := by
  rcases h with h | ⟨rfl, hm, ep, h⟩
  · exact dk_rd I.hok h
  · obtain ⟨o, h1, h2, h3⟩ := (show ObjOk X.prog X.w H s.heap a (DicO a #[] ep) from I.hok a _ h).1
    exact ⟨Nat.zero_le _, hm, [], .nil, o, #[], ep, h1, h2, h3, fun e he => by simp at he, .nil, .nil⟩
def rSortK : List V → Hp → VK → Prop := fun xs H Q => ∃ (a : Addr) (kvs : List (Key × V)) (ks : List Int), xs = [V.ref a] ∧ HasD H a kvs ∧ kvs.map Prod.fst = ks.map .inl ∧ ks.length < 64 ∧ ∀ (ys : List Int) (p : Addr), ys.Perm ks → ys.Pairwise (· ≤ ·) → H p = none → Q (.ref p) (upd H p (.lst (ys.map .int)))
theorem int_key {k : Int} {v : Value} (h : keyIs (Sum.inl k : Key) v = true) : ∃ t, v = .int k t := by
  rcases keyIs_shape h with ⟨i, t, e1, e2⟩ | ⟨z, t, e1, e2⟩
  · cases e1
    exact ⟨t, e2⟩
  · cases e1
/-- the keys as they are drawn -/
theorem drawn_ints {P : Program} {w : World} {vs : List (Key × Value)} {ks : List Int} {us : List Value} (hk : vs.map Prod.fst = ks.map .inl) (hl : us.length = ks.length)
    (h : ∀ (j : Nat) (v : Value), us[j]? = some v → ∃ k x, vs[j]? = some (k, x) ∧ keyIs k v = true) : IntsAre us ks := ints_each hl fun j v e => by
  obtain ⟨k, x, e1, e2⟩ := h j v e
  have e3 : (ks.map (Sum.inl : Int → Key))[j]? = some k := by
    rw [← hk, List.getElem?_map, e1]
    rfl
  rw [List.getElem?_map] at e3
  obtain ⟨y, e4, rfl⟩ := Option.map_eq_some_iff.mp e3
  obtain ⟨t, rfl⟩ := int_key e2
  exact ⟨y, t, e4, rfl⟩
theorem cr_sortK (hc : X.calm = true) : CallR X (.builtin "sorted") rSortK := by
  intro pins s σ H xs us Q I r ⟨a, kvs, ks, hx, hd, hks, few, q⟩
  subst hx
  obtain ⟨u, rfl, ru⟩ := vals1 r
  cases ru
  obtain ⟨hz, hm, vs, kv, dd⟩ := has_at I hd
  obtain ⟨ep, at0⟩ := dd.dictAt
  have hv : vs.map Prod.fst = ks.map .inl := kv.keys.symm.trans hks
  have nl : vs.length = ks.length := by simpa using congrArg List.length hv
  have small : vs.length ≤ sizeLine := by
    rw [nl, sizeLine_eq]
    omega
  apply Calls.call_function_entry kind_sorted plain_sorted entry_sorted (args_sorted1 _)
  unfold Builtin.«sorted»
  apply wpAny_bind (m := checkCount "sorted" 1 1 _)
  apply wpAny_pure
  apply wpAny_bind
  apply PySem.W.kdu_collect (A := X.A.in1) (PySem.W.kdl_dict (knd := mixKind X.prog X.w) (kvs := vs) (ep := ep) hm) (I.ok.hd hc) at0 small
  intro h2 tk acc keep got
  have al : acc.toList.length = ks.length := by rw [Array.length_toList, got.1, nl]
  have ai : IntsAre acc.toList ks := drawn_ints (P := X.prog) (w := X.w) hv al fun j v e => by
    obtain ⟨k, x, e1, e2⟩ := got.2 j v ((Array.getElem?_toList ..).symm.trans e)
    exact ⟨k, x, e1, e2⟩
  have I2 : Inv X pins σ H { s with heap := h2, toks := tk } := I.kept keep
  apply wpAny_bind
  apply wpAny_newList _ (by rw [al, sizeLine_eq]; omega)
  have top := Heap.get?_push_size h2 (show (seqObj "list" acc.toList.toArray 0).isFreed = false from rfl)
  apply wpAny_bind
  apply wpAny_holding
  refine wpAny_call_entry slot_list_sort ⟨_, top, rfl⟩ entry_list_sort
    (list_sort_tree (s := { s with heap := h2.push (seqObj "list" acc.toList.toArray 0), toks := tk }) top ai (by rw [al]; exact few) fun out ys g1 g2 g3 => ⟨_, rfl, ?_⟩) (args_list_sort _)
  obtain ⟨n, hn⟩ := sortedHeap_at (vs := acc.toList) (out := out) top
  have yl : (ys.map V.int).length ≤ sizeLine := by
    rw [List.length_map, g2.length_eq, sizeLine_eq]
    omega
  apply wpAny_pure
  refine ⟨_, rfl, .ref h2.objs.size, upd H h2.objs.size (.lst (ys.map .int)), I2.laid (t' := tk) (fun b o e => ?_) (Nat.le_refl _) ⟨yl, out.toList, n, vals_of_ints g1, by rw [Array.toArray_toList]; exact hn⟩, rfl, q ys _ g2 g3 (I2.hok.fresh (Nat.le_refl _))⟩
  have lt : b < h2.objs.size := Heap.lt_size e
  rw [sortedHeap_old (Nat.ne_of_lt lt) (by rw [size_push']; exact Nat.lt_succ_of_lt lt)]
  exact Heap.get?_push_of_some _ e
def rListK : List V → Hp → VK → Prop := fun xs H Q => ∃ (a : Addr) (kvs : List (Key × V)), xs = [V.ref a] ∧ HasD H a kvs ∧ ∀ p, H p = none → Q (.ref p) (upd H p (.lst (kvs.map fun x => kV x.1)))
theorem cr_listK (hc : X.calm = true) : CallR X (.type "list") rListK := by
  intro pins s σ H xs us Q I r ⟨a, kvs, hx, hd, q⟩
  subst hx
  obtain ⟨u, rfl, ru⟩ := vals1 r
  cases ru
  obtain ⟨hz, hm, vs, kv, dd⟩ := has_at I hd
  obtain ⟨ep, at0⟩ := dd.dictAt
  have hk : kvs.map (fun x => kV x.1) = vs.map fun x => kV x.1 := by
    have := congrArg (List.map kV) kv.keys
    rwa [List.map_map, List.map_map] at this
  apply PySem.W.kdl_call (PySem.W.kdl_dict (knd := mixKind X.prog X.w) (kvs := vs) (ep := ep) hm) (I.ok.hd hc) at0 (by rw [← kv.length]; exact hz)
  intro h2 tk acc n keep top got
  have hv : Vals (vs.map fun x => kV x.1) acc.toList := keys_at (by rw [Array.length_toList]; exact got.1) fun j v e => got.2 j v ((Array.getElem?_toList ..).symm.trans e)
  exact ⟨.ref s.heap.objs.size, upd H s.heap.objs.size (.lst (kvs.map fun x => kV x.1)), I.laid (t' := tk) keep (Nat.le_refl _) ⟨by rw [List.length_map]; exact hz, acc.toList, n, by rw [hk]; exact hv, by rw [Array.toArray_toList]; exact top⟩, rfl, q _ (I.hok.fresh (Nat.le_refl _))⟩
end
end L2
namespace Fd
open PySem PySem.Spec PyProof.Rows L2 Evl Tb
/-- the keys, all of them ints -/
def intKs : List (PyData × PyData) → Option (List Int)
  | [] => some []
  | (.int i, _) :: ds => (intKs ds).map (i :: ·)
  | _ => none
def insI (i : Int) : List Int → List Int
  | [] => [i]
  | j :: js => if i ≤ j then i :: j :: js else j :: insI i js
def srtI : List Int → List Int
  | [] => []
  | i :: is => insI i (srtI is)
theorem insI_perm (i : Int) : ∀ js : List Int, (insI i js).Perm (i :: js)
  | [] => .refl _
  | j :: js => by
    unfold insI
    split
    · exact .refl _
    · exact ((insI_perm i js).cons j).trans (.swap i j js)
theorem srtI_perm : ∀ is : List Int, (srtI is).Perm is
  | [] => .refl _
  | i :: is => (insI_perm i _).trans ((srtI_perm is).cons i)
theorem insI_le (i : Int) : ∀ js : List Int, js.Pairwise (· ≤ ·) → (insI i js).Pairwise (· ≤ ·)
  | [], _ => List.pairwise_singleton ..
  | j :: js, h => by
    obtain ⟨h1, h2⟩ := List.pairwise_cons.mp h
    unfold insI
    split
    · rename_i c
      refine List.pairwise_cons.mpr ⟨fun x hx => ?_, h⟩
      rcases List.mem_cons.mp hx with rfl | hx
      · exact c
      · exact Int.le_trans c (h1 x hx)
    · rename_i c
      refine List.pairwise_cons.mpr ⟨fun x hx => ?_, insI_le i js h2⟩
      rcases List.mem_cons.mp ((insI_perm i js).mem_iff.mp hx) with rfl | hx
      · omega
      · exact h1 x hx
theorem srtI_le : ∀ is : List Int, (srtI is).Pairwise (· ≤ ·)
  | [] => .nil
  | i :: is => insI_le i _ (srtI_le is)
theorem srtI_of {xs ys : List Int} (h : ys.Pairwise (· ≤ ·)) (p : ys.Perm xs) : ys = srtI xs :=
  List.Perm.eq_of_pairwise (fun a b _ _ h1 h2 => Int.le_antisymm h1 h2) h (srtI_le xs) (p.trans (srtI_perm xs).symm)
section
variable {K : PySem.W.Frag} {B H : Hp}
theorem int_kvs : ∀ {kvs : List (Key × V)} {ds : List (PyData × PyData)} {ns : List Int}, KVD K B kvs ds → intKs ds = some ns → kvs.map Prod.fst = ns.map .inl
  | _, _, _, .nil, h => by
    cases h
    rfl
  | x :: kvs, d :: ds, ns, .cons h t, e => by
    obtain ⟨dk, dv⟩ := d
    cases dk with
    | int i =>
      obtain ⟨ms, h1, rfl⟩ := Option.map_eq_some_iff.mp (show (intKs ds).map (i :: ·) = some ns from e)
      have e1 : nkey x.1 = nkey (.inl i) := (Option.some.inj (h.1.symm.trans (rfl : keyD (.int i) = some (nkey (.inl i)))))
      rw [List.map_cons, List.map_cons, int_kvs t h1, nkey_inj e1]
    | _ => cases e
theorem intKs_keyI : ∀ {ds : List (PyData × PyData)} {ns : List Int}, intKs ds = some ns → ∀ d ∈ ds, (keyI d.1).isSome = true
  | [], _, _, _, h => nomatch h
  | (.int i, v) :: ds, ns, e, d, hd => by
    obtain ⟨ms, h1, rfl⟩ := Option.map_eq_some_iff.mp (show (intKs ds).map (i :: ·) = some ns from e)
    rcases List.mem_cons.mp hd with rfl | hd
    · rfl
    · exact intKs_keyI h1 d hd
  | (.none, _) :: _, _, e, _, _ => by cases e
  | (.bool _, _) :: _, _, e, _, _ => by cases e
  | (.str _, _) :: _, _, e, _, _ => by cases e
  | (.list _, _) :: _, _, e, _, _ => by cases e
  | (.tuple _, _) :: _, _, e, _, _ => by cases e
  | (.dict _, _) :: _, _, e, _, _ => by cases e
theorem ints_dqU : ∀ ns : List Int, DqAll K B (ns.map V.int) (ns.map .int)
  | [] => .nil
  | n :: ns => .cons (.int n) (ints_dqU ns)
/-- sorted(d), d one's own, which does not change any more -/
def dSortO (i : Nat) : Dn (List PyData) := fun e => match e[i]? with
  | some (.q ds) => match intKs ds with
    | some ns => if decide (ns.length < 64) = true then some ((srtI ns).map .int, e.set i (.d (.dict ds))) else none
    | none => none
  | _ => none
theorem sl_sortO {i : Nat} : SL K (tCB rSortK (tCons (tVar i) tNil)) (dSortO i) := fun W hW σ e B H a ys e' h Q q => by
  unfold dSortO at h
  split at h
  case h_2 => cases h
  rename_i ds hi
  split at h
  case h_2 => cases h
  rename_i ns hn
  split at h
  case isFalse => cases h
  rename_i hz
  cases h
  have hz := of_decide_eq_true hz
  obtain ⟨p, o, g1, gM, g3, g4, g5⟩ := a.own i _ (.q ds) hi rfl
  have own : OwnD K B p o ds := hW ▸ g5
  obtain ⟨_, _, w1, w2, w3, w4, w5, w6⟩ := a.fzAtC hi (xs := .q ds) rfl rfl rfl
  have same : some (some (V.ref p)) = some (some (V.ref _)) := g1.symm.trans w1
  cases same
  rw [g4] at w2
  cases w2
  obtain ⟨kvs, hd, hk⟩ : ∃ kvs, HasD H p kvs ∧ kvs.map Prod.fst = ns.map .inl := by
    rcases own with ⟨ks, rfl, r, hne⟩ | ⟨m0, m2, es, ep, kvs, rfl, ⟨zs, _, _, zr, zl⟩, m7⟩
    · exact ⟨ks, .inl (.inl g4), int_kvs r hn⟩
    · cases m7 with
      | nil =>
        cases zr
        cases hn
        have : es = #[] := Array.eq_empty_of_size_eq_zero zl
        subst this
        exact ⟨[], .inr ⟨rfl, m0, ep, g4⟩, rfl⟩
      | cons r t =>
        exfalso
        cases zr with
        | cons r2 t2 =>
          obtain ⟨z, hz⟩ := Option.isSome_iff_exists.mp (intKs_keyI hn _ (List.mem_cons_self ..))
          have e1 := r.1
          rw [keyI_key hz] at e1
          have e2 := r2.2
          rw [← r2.1.1, ← Option.some.inj e1] at e2
          cases z <;> cases e2
  refine ⟨_, g1, p, kvs, ns, rfl, hd, hk, hz, fun out r hp hs hr => ?_⟩
  have eo := srtI_of hs hp
  subst eo
  have hB := fresh_back w5.ex hr
  have hn2 : ¬ Ow σ (e.set i (.d (.dict ds))) r := fun z => (w5.ow z).2.1 hr
  exact q r _ _ _ (w5.oth hB hn2) ⟨w6.go.put hr, w6.ow⟩ hr upd_same hB (ints_dqU _)
/-- list(d), d known: its keys, ints and texts -/
def dKeysL (f : Dn PyData) : Dn (List PyData) := dBind f fun x => match x with
  | .dict ds => if ds.all (fun d => (keyI d.1).isSome) = true then dK (ds.map (·.1)) else fun _ => none
  | _ => fun _ => none
theorem known_has {v : V} {ds : List (PyData × PyData)} (h : Dq K B v (.dict ds)) (hk : ∀ d ∈ ds, (keyI d.1).isSome = true) (x : Ex B H) : ∃ a kvs, v = .ref a ∧ HasD H a kvs ∧ DqAll K B (kvs.map fun x => kV x.1) (ds.map (·.1)) := by
  cases h with
  | dic h1 h2 h3 =>
    rename_i a kvs
    have base : ∀ (ks : List (Key × V)) (ds : List (PyData × PyData)), (ds.map fun d => keyD d.1) = (ks.map fun x => some (nkey x.1)) → (∀ d ∈ ds, (keyI d.1).isSome = true) → DqAll K B (ks.map fun x => kV x.1) (ds.map (·.1)) := by
      intro ks
      induction ks with
      | nil =>
        intro ds e _
        cases ds with
        | nil => exact .nil
        | cons d ds => cases e
      | cons k ks ih =>
        intro ds e hk
        cases ds with
        | nil => cases e
        | cons d ds =>
          obtain ⟨e1, e2⟩ := List.cons.inj e
          obtain ⟨j, hj⟩ := Option.isSome_iff_exists.mp (hk d (List.mem_cons_self ..))
          have e3 : some (nkey j) = some (nkey k.1) := (keyI_key hj).symm.trans e1
          have e4 := nkey_inj (Option.some.inj e3)
          subst e4
          exact .cons (keyI_dq hj) (ih ds e2 fun d hd => hk d (List.mem_cons_of_mem _ hd))
    rcases h1 with ⟨h0, es, ep, k1, k2, zs, k3, k4, k5⟩ | ⟨ks, hne, k1, rfl⟩
    · cases ds with
      | nil =>
        cases kvs with
        | cons y ys => cases h2
        | nil =>
          cases k5
          have k3 := k3 Uw.P Uw.w
          exact ⟨a, [], rfl, .inr ⟨rfl, h0, ep, x _ _ (by
            have e : es = #[] := by simpa using k3
            rw [← e]
            exact k1)⟩, .nil⟩
      | cons d ds =>
        exfalso
        cases k5 with
        | nil => cases h2
        | cons r t =>
          obtain ⟨j, hj⟩ := Option.isSome_iff_exists.mp (hk d (List.mem_cons_self ..))
          have e1 := (keyI_key hj).symm.trans (List.cons.inj h2).1
          obtain ⟨_, _, _, _, e2⟩ := r.2.1
          rw [← r.1, ← Option.some.inj e1] at e2
          cases j <;> cases e2
    · refine ⟨a, ks, rfl, .inl (k1.imp (x _ _) fun ⟨o, z⟩ => ⟨o, x _ _ z⟩), base ks ds ?_ hk⟩
      rw [h2, List.map_map]
      rfl
theorem sl_keysL {te : TE} {f : Dn PyData} (h : SE K te f) : SL K (tCB rListK (tCons te tNil)) (dKeysL f) := fun W hW σ e B H a ys e' h' Q q => by
  obtain ⟨x, e1, h1, h2⟩ := dBind_some h'
  split at h2
  case h_2 => cases h2
  rename_i ds
  split at h2
  case isFalse => cases h2
  rename_i hk
  obtain ⟨rfl, rfl⟩ := dK_some h2
  refine h W hW σ e B H a _ _ h1 _ fun v B1 H1 a1 g1 d1 => ?_
  obtain ⟨p, kvs, rfl, k1, k2⟩ := known_has d1 (List.all_eq_true.mp hk) a1.ex
  refine ⟨p, kvs, rfl, k1, fun r hr => ?_⟩
  have hB := fresh_back a1.ex hr
  exact q r _ B1 _ (a1.oth hB fun z => (a1.ow z).2.1 hr) ⟨g1.go.put (g1.go.dm r hr), g1.ow⟩ (g1.go.dm r hr) upd_same hB k2
end
end Fd
end

section
set_option Elab.async false
set_option linter.all false
set_option maxRecDepth 100000
set_option maxHeartbeats 3200000
/-! sorted(set(a list of ints)). -/
variable [Fd.Uw]
namespace L2
open PySem PySem.Spec PyProof.Rows Evl
/-- a set as it is born -/
abbrev bornS (w : World) : Obj := { cls := .type "set", dict := none, data := .set #[] 0 (.fresh 0 0 (!w.params.followText "set-order")) }
section
variable {P : Program} {w : World} {A : Around} {E : Value → Shared → Prop} {s : Shared}
theorem set_of_ints {l : Addr} {its : Array Value} (ns : List Int) {Q : Value → Shared → Prop} (hh : A.handled = none) (isl : s.heap.IsList l its) (nn : IntsAre its.toList ns) (few : ns.length + 1 < scanBound)
    (fin : ∀ (h2 : Heap) (tk c : Nat), SetR w h2 s.heap.objs.size (fun j => decide (j ∈ ns)) c → c ≤ ns.length → (∀ b o, s.heap.get? b = some o → h2.get? b = some o) → Q (.ref s.heap.objs.size) { s with heap := h2, toks := tk }) :
    wpAny (model P w) A (call (.type "set") [.ref l]) Q E s := by
  have same : its.size = ns.length := (Array.length_toList (xs := its)).symm.trans nn.length
  obtain ⟨c0, tl0, mro0⟩ := F.called_set.mro
  have made0 := F.called_set.made
  have sub0 := F.called_set.sub
  apply wpAny_call
  apply codeAny_of_tree
  show wpAny _ _ (callAny (.type "set") _) _ _ _
  apply wpAny_pure
  refine ⟨Code.quiet_builtin _ (by decide +kernel), ?_⟩
  apply codeAny_builtin F.entry_type_call
  rw [Around.under_plain (weight_type_call_type "set" [.ref l] []) rfl]
  have not0 := F.called_set.notType
  have can0 := F.called_set.canCreate
  have one0 := F.typeCall_set_1 (.ref l)
  repeat (any_goals (first | assumption | wp_step))
  refine codeAny_mono (code_set_led1 (.ref l) (E := E) (Q₁ := fun z s1 => z = .ref s.heap.objs.size ∧ s1 = { s with heap := s.heap.push (bornS w) }) ⟨rfl, rfl⟩) fun r s1 hr => ?_
  cases r with
  | error e => exact hr
  | ok fl =>
    cases fl with
    | ret obj =>
      obtain ⟨rfl, rfl⟩ := hr
      have top : (s.heap.push (bornS w)).get? s.heap.objs.size = some (bornS w) := Heap.get?_push_size _ rfl
      have ty : Shared.TypeIs { s with heap := s.heap.push (bornS w) } (.ref s.heap.objs.size) "set" := ⟨_, top, rfl⟩
      have look0 := F.called_set.init.lookup
      have bind0 := F.called_set.init.bind (.ref s.heap.objs.size)
      repeat (any_goals (first | assumption | wp_step))
      refine codeAny_mono (codeAny_call_builtin (R := wants (fun r s2 => r = .none ∧ ∃ h2 tk c, s2 = { s with heap := h2, toks := tk } ∧ SetR w h2 s.heap.objs.size (fun j => decide (j ∈ ns)) c ∧ c ≤ ns.length ∧
          ∀ b o, s.heap.get? b = some o → h2.get? b = some o) E) F.called_set.init.plain F.entry_set_init (check_set_init_1 ty ?_)) fun r2 s2 hr2 => ?_
      · obtain ⟨⟨ol, od, odt, osl⟩, at_l, cl, nl, dl⟩ := isl
        simp only at cl dl
        subst cl dl
        have at2 := Heap.get?_push_of_some (bornS w) at_l
        have s1 := F.sub_list_set
        have s2 := F.sub_list_frozenset
        have s3 : (Value.type "list" == Value.type "dict") = false := by decide
        have is2 : (s.heap.push (bornS w)).IsList l its := ⟨_, at2, rfl, nl, rfl⟩
        unfold Builtin.«set.__init__» noKeywords Builtin.Frozenset.updateFrom
        generalize iv : pyIter = PI
        wp_walk
        subst iv
        apply wpAny_pyIter_list is2
        apply wpAny_bind
        apply wpAny_runValue
        have lt : l < s.heap.objs.size := Heap.lt_size at_l
        have h3 : A.in1.in1.in1.handled = none := by simp [hh]
        have sz : (s.heap.push (bornS w)).objs.size = s.heap.objs.size + 1 := Heap.size_push ..
        have ne : l ≠ (s.heap.push (bornS w)).objs.size := by
          rw [sz]
          exact Nat.ne_of_lt (Nat.lt_succ_of_lt lt)
        have out : s.heap.objs.size ∉ [(s.heap.push (bornS w)).objs.size, l] := by
          rw [sz]
          simp only [List.mem_cons, List.not_mem_nil, or_false, not_or]
          exact ⟨Nat.ne_of_lt (Nat.lt_succ_self _), Nat.ne_of_gt lt⟩
        refine set_update_ints (Walks.list h3 _ l ne its).toS s.heap.objs.size out ns same few (fun i v hv => ?_) (its.size - 0) 0 _ rfl (Nat.zero_le _) ⟨⟨_, Heap.get?_push_size _ rfl, rfl, rfl⟩, is2.push _⟩ ⟨0, Nat.le_refl 0, setR_new_at (Heap.get?_push_of_some _ top)⟩ fun s' c' mv le R => ?_
        · have hi : i < ns.length := by
            rw [← same]
            exact (Array.getElem?_eq_some_iff.mp hv).1
          obtain ⟨t, e⟩ := IntsAre.int_at nn i v (by rw [Array.getElem?_toList]; exact hv)
          refine ⟨ns[i], t, List.getElem?_eq_getElem hi, ?_⟩
          rw [e, List.getD_eq_getElem?_getD, List.getElem?_eq_getElem hi]
          rfl
        · obtain ⟨h2, g2, d2, tk2, os2⟩ := s'
          obtain rfl : g2 = s.gens := mv.gens
          obtain rfl : d2 = s.drawn := mv.drawn
          obtain rfl : os2 = s.os := mv.os
          show wpAny _ _ _ _ _ _
          apply wpAny_pure
          show wpAny _ _ (ret Value.none) _ _ _
          apply wpAny_pure
          refine ⟨rfl, h2, tk2, c', rfl, R, by omega, fun b o e => ?_⟩
          have b0 : b < s.heap.objs.size := Heap.lt_size e
          refine mv.heap b o ?_ (Heap.get?_push_of_some _ (Heap.get?_push_of_some _ e))
          simp only [List.mem_cons, List.not_mem_nil, or_false, not_or]
          exact ⟨Nat.ne_of_lt b0, by rw [sz]; exact Nat.ne_of_lt (Nat.lt_succ_of_lt b0)⟩
      · cases r2 with
        | error e => exact hr2
        | ok fl2 =>
          cases fl2 with
          | ret r =>
            obtain ⟨rfl, h2, tk, c, rfl, R, le, keep⟩ := hr2
            repeat (any_goals (first | assumption | wp_step))
            exact fin _ _ _ R le keep
          | _ => exact hr2.elim
    | _ => exact hr.elim
end
end L2
end

section
set_option Elab.async false
set_option linter.all false
set_option maxRecDepth 100000
set_option maxHeartbeats 1000000
/-! sorted(set(a list of ints)), fewer than 64 of them, as a word. -/
variable [Fd.Uw]
namespace L2
open PySem PySem.Spec PyProof.Rows Evl
def rSetQl (K : PySem.W.Frag) (w : World) : List V → Hp → VK → Prop := fun xs H Q => ∃ (a : Addr) (ns : List Int), xs = [V.ref a] ∧ SqL K H a (ns.map V.int) ∧ ns.length < 64 ∧ ∀ p c, H p = none → c ≤ ns.length → Q (.ref p) (upd H p (SetO w p (fun j => decide (j ∈ ns)) c))
theorem ck_setL {X : Cx} {K : PySem.W.Frag} {w : World} (h : X.K = K) (hw : X.w = w) (hc : X.calm = true) : CallR X (.type "set") (rSetQl K w) := by
  subst h hw
  intro pins s σ H xs us Q I r ⟨a, ns, hx, hs, hz, q⟩
  subst hx
  obtain ⟨u, rfl, ru⟩ := vals1 r
  cases ru
  obtain ⟨its, rv, pl, _⟩ := I.list hs
  have hi : IntsAre its ns := Vals.ints rv
  apply set_of_ints ns (I.ok.hd hc) pl.isList (by simpa using hi) (by
    have : (64 : Nat) + 1 < scanBound := by decide
    omega)
  intro h2 tk c R le keep
  exact ⟨.ref s.heap.objs.size, _, I.laid (t' := tk) keep (Nat.le_refl _) (setO_new (P := X.prog) R), rfl, q _ c (I.hok.fresh (Nat.le_refl _)) le⟩
theorem ck_sortS {X : Cx} {w : World} (hw : X.w = w) (hc : X.calm = true) : CallR X (.builtin "sorted") (rSortedSet w) := hw ▸ cr_sortedSet hc
end L2
namespace Fd
open PySem PySem.Spec PyProof.Rows L2 Evl Tb
/-- each of them once -/
def onceI : List Int → List Int
  | [] => []
  | i :: is => if i ∈ is then onceI is else i :: onceI is
theorem onceI_mem (k : Int) : ∀ is : List Int, k ∈ onceI is ↔ k ∈ is
  | [] => Iff.rfl
  | i :: is => by
    unfold onceI
    split
    · rename_i c
      rw [onceI_mem k is, List.mem_cons]
      exact ⟨.inr, fun h => h.elim (fun e => e ▸ c) id⟩
    · rw [List.mem_cons, List.mem_cons, onceI_mem k is]
theorem onceI_nodup : ∀ is : List Int, (onceI is).Nodup
  | [] => .nil
  | i :: is => by
    unfold onceI
    split
    · exact onceI_nodup is
    · rename_i c
      exact List.nodup_cons.mpr ⟨fun z => c ((onceI_mem i is).mp z), onceI_nodup is⟩
theorem once_of {ns is : List Int} (h1 : ns.Pairwise (· < ·)) (h2 : ∀ k, k ∈ ns ↔ k ∈ is) : ns = srtI (onceI is) := by
  have nd : ns.Nodup := h1.imp fun h => Int.ne_of_lt h
  refine srtI_of (h1.imp fun h => Int.le_of_lt h) ((List.perm_ext_iff_of_nodup nd (onceI_nodup is)).mpr fun k => ?_)
  rw [h2, onceI_mem]
/-- sorted(set(a list of ints)) -/
def sortSetD : List PyData → Option (List PyData)
  | [.list ds] => match intsOf ds with
    | some ns => if ns.length < 64 then some ((srtI (onceI ns)).map .int) else none
    | none => none
  | _ => none
section
variable {K : PySem.W.Frag} {ta : TA} {fl : Dn (List PyData)}
theorem sl_sortSet (h : SA K ta fl) : SL K (tCB (rSortedSet Uw.w) (tCons (tCB (rSetQl K Uw.w) ta) tNil)) (dCbL sortSetD fl) := fun W hW σ e B H a ys e' h' Q q => by
  obtain ⟨ds, e1, h1, h2⟩ := dBind_some h'
  obtain ⟨h3, rfl⟩ := dLift_some h2
  unfold sortSetD at h3
  split at h3
  case h_2 => cases h3
  rename_i zs
  split at h3
  case h_2 => cases h3
  rename_i ns hns
  split at h3
  case isFalse => cases h3
  rename_i hl
  cases h3
  rw [intsOf_some hns] at h1
  refine h W hW σ e B H a _ e' h1 _ fun vs B1 H1 a1 g1 d1 => ?_
  cases d1 with
  | cons hv hr =>
    cases hr
    obtain ⟨b, us, rfl, k1, k2⟩ := hv.lst_of
    rw [ints_dq k2] at k1
    refine ⟨b, ns, rfl, ex_l a1.ex k1, hl, fun p c hp le => ⟨p, _, c, rfl, upd_same, by omega, fun out r hs hm hc hr => ?_⟩⟩
    have eo : out = srtI (onceI ns) := once_of hs fun k => by
      rw [hm k, decide_eq_true_iff]
    subst eo
    have gr := Gr.mut (o := SetO Uw.w p (fun j => decide (j ∈ ns)) c) a1.ex hp
    have a2 := a1.gr gr
    have g2 := g1.trans (gx_gr gr)
    have hB := fresh_back a2.ex hr
    exact q r _ B1 _ (a2.oth hB fun z => (a2.ow z).2.1 hr) ⟨g2.go.put (g2.go.dm r hr), g2.ow⟩ (g2.go.dm r hr) upd_same hB (ints_dqU _)
end
end Fd
end

section
set_option Elab.async false
set_option linter.all false
set_option maxRecDepth 100000
set_option maxHeartbeats 1000000
/-! A known dict that is walked: locked for the time of one comprehension. -/
variable [Fd.Uw]
namespace L2
open PySem PySem.Spec PyProof.Rows Evl
/-- the dict at d, locked, or an empty one -/
def iKeysR (td : TE) : TI := fun σ H R => td σ H fun x H1 => ∃ d, x = .ref d ∧ ((∃ o kvs, H1 d = some (.frz o (.dK kvs)) ∧ R (Itk d o kvs) H1) ∨
  ∃ es ep, (d == sysModules) = false ∧ H1 d = some (DicO d es ep) ∧ (Program → World → R (Ikq d es ep) H1))
theorem pi_keysR {X : Cx} {tg e : Expr} {td : TE} (he : PE X e td) : PI X tg e (iKeysR td) := by
  refine ⟨fun pins s σ H R I h => ?_⟩
  refine thn (he.run pins s σ H _ I h) fun u s1 ⟨x, H1, I1, rx, d, ex, q⟩ => ?_
  subst ex
  obtain rfl : u = Value.ref d := rx
  rcases q with ⟨o, kvs, hd, q⟩ | ⟨es, ep, hm, hd, q⟩
  · obtain ⟨hs, hgd, hx, es, ep, vs, hdt, hsz, kv, hm⟩ := I1.frzK hd
    refine iter_keys hs hgd hx hdt (pi_one (tk := s1.toks) I1 _ (turn_keys _ hdt) ⟨_, Heap.get?_push_size _ rfl, rfl, ?_⟩ q)
    rw [hsz] <;> rfl
  · have raw := (show ObjOk X.prog X.w H1 s1.heap d (DicO d es ep) from I1.hok d _ hd).1
    exact wpAny_pyIter_dict_raw hm raw ⟨_, [s1.heap.objs.size], _, _, H1, rfl, I1.kept (t' := s1.toks) (fun _ _ z => Heap.get?_push_of_some _ z), turn_kq s1.heap.objs.size, ⟨_, Heap.get?_push_size _ rfl, rfl, rfl⟩, fun b hb => by
      rw [List.mem_singleton.mp hb]
      exact I1.fpOk (Nat.le_refl _) (I1.hok.fresh (Nat.le_refl _)), q X.prog X.w⟩
/-- the expression, with some thing locked or none -/
def tLockQ (t : TE) : TE := fun σ H Q => tLockE t σ H Q ∨ t σ H Q
theorem pe_lockQ {X : Cx} {e : Expr} {t : TE} (h : PE X e t) : PE X e (tLockQ t) := ⟨fun pins s σ H Q I z => z.elim (fun z => (pe_lock h).run pins s σ H Q I z) fun z => h.run pins s σ H Q I z⟩
/-- the dict at p is locked, or is no more -/
structure Lk (p : Addr) (ks : List (Key × V)) (B B' : Hp) : Prop where
  here : ∃ od, (B p = some (.dK ks) ∧ B' p = some (.frz od (.dK ks))) ∨ (B p = some (.frz od (.dK ks)) ∧ B' p = some (.dK ks))
  else_ : ∀ b, b ≠ p → B' b = B b
section
variable {p : Addr} {ks : List (Key × V)} {B B' : Hp} {K : PySem.W.Frag}
theorem Lk.non (l : Lk p ks B B') {b : Addr} : B b = none ↔ B' b = none := by
  by_cases c : b = p
  · subst c
    obtain ⟨od, ⟨h1, h2⟩ | ⟨h1, h2⟩⟩ := l.here <;> rw [h1, h2] <;> exact ⟨(nomatch ·), (nomatch ·)⟩
  · rw [l.else_ b c]
theorem Lk.dk (l : Lk p ks B B') {a : Addr} {kvs : List (Key × V)} (h : Rd B a (.dK kvs)) : Rd B' a (.dK kvs) := by
  by_cases c : a = p
  · subst c
    obtain ⟨od, ⟨h1, h2⟩ | ⟨h1, h2⟩⟩ := l.here
    · rcases h with h | ⟨o, h⟩ <;> rw [h1] at h <;> cases h
      exact .inr ⟨od, h2⟩
    · rcases h with h | ⟨o, h⟩ <;> rw [h1] at h <;> cases h
      exact .inl h2
  · rcases h with h | ⟨o, h⟩
    · exact .inl (by rw [l.else_ a c]; exact h)
    · exact .inr ⟨o, by rw [l.else_ a c]; exact h⟩
theorem Lk.ne (l : Lk p ks B B') {a : Addr} {u : HO} (h : B a = some u) (h1 : ∀ k, u ≠ .dK k) (h2 : ∀ o k, u ≠ .frz o (.dK k)) : a ≠ p := fun c => by
  subst c
  obtain ⟨od, ⟨e, _⟩ | ⟨e, _⟩⟩ := l.here
  · rw [e] at h
    exact h1 ks (Option.some.inj h).symm
  · rw [e] at h
    exact h2 od ks (Option.some.inj h).symm
theorem Lk.keep (l : Lk p ks B B') {a : Addr} {u : HO} (h : B a = some u) (h1 : ∀ k, u ≠ .dK k) (h2 : ∀ o k, u ≠ .frz o (.dK k)) : B' a = some u := by
  rw [l.else_ a (l.ne h h1 h2)]
  exact h
theorem Lk.sl (l : Lk p ks B B') {a : Addr} {xs : List V} (h : SqL K B a xs) : SqL K B' a xs := by
  rcases h with h | h
  · rcases h with h | ⟨o, h⟩
    · exact .inl (.inl (l.keep h (fun _ z => nomatch z) (fun _ _ z => nomatch z)))
    · exact .inl (.inr ⟨o, l.keep h (fun _ z => nomatch z) (fun _ _ z => by cases z)⟩)
  · exact .inr h
theorem Lk.st (l : Lk p ks B B') {a : Addr} {xs : List V} (h : SqT K B a xs) : SqT K B' a xs := by
  rcases h with h | h
  · rcases h with h | ⟨o, h⟩
    · exact .inl (.inl (l.keep h (fun _ z => nomatch z) (fun _ _ z => nomatch z)))
    · exact .inl (.inr ⟨o, l.keep h (fun _ z => nomatch z) (fun _ _ z => by cases z)⟩)
  · exact .inr h
theorem Lk.key (l : Lk p ks B B') {b : Addr} {k : NestedKey} (h : KeyT K B b k) : KeyT K B' b k := by
  obtain ⟨vs, kk, h1, h2, h3⟩ := h
  exact ⟨vs, kk, l.st h1, h2, h3⟩
theorem Lk.dic (l : Lk p ks B B') {a : Addr} {kvs : List (NestedKey × V)} (h : DicAt K B a kvs) : DicAt K B' a kvs := by
  rcases h with ⟨h0, es, ep, h1, h2, ys, h3, h4, h5⟩ | ⟨kk, h0, h1, h2⟩
  · exact .inl ⟨h0, es, ep, l.keep h1 (fun _ z => nomatch z) (fun _ _ z => nomatch z), h2, ys, h3, h4, Paired.mapP h5 fun y x z => ⟨z.1, l.key z.2.1, z.2.2⟩⟩
  · exact .inr ⟨kk, h0, l.dk h1, h2⟩
mutual
theorem Lk.dq (l : Lk p ks B B') : ∀ {v : V} {d : PyData}, Dq K B v d → Dq K B' v d
  | _, _, .non => .non
  | _, _, .bl b => .bl b
  | _, _, .int i => .int i
  | _, _, .str x => .str x
  | _, _, .lst s a => .lst (l.sl s) (Lk.dqa l a)
  | _, _, .tup s a h => .tup (l.st s) (Lk.dqa l a) fun z => by
    obtain ⟨o, h1, h2⟩ := h z
    exact ⟨o, l.keep h1 (fun _ z => nomatch z) (fun _ _ z => by cases z), h2⟩
  | _, _, .dic h1 h2 h3 => .dic (l.dic h1) h2 (Lk.dqa l h3)
theorem Lk.dqa (l : Lk p ks B B') : ∀ {vs : List V} {ds : List PyData}, DqAll K B vs ds → DqAll K B' vs ds
  | _, _, .nil => .nil
  | _, _, .cons h t => .cons (Lk.dq l h) (Lk.dqa l t)
end
end
end L2
namespace Fd
open PySem PySem.Spec PyProof.Rows L2 Evl Tb
section
variable {p : Addr} {ks : List (Key × V)} {B B' H : Hp} {K : PySem.W.Frag}
theorem lk_own (l : Lk p ks B B') {q : Addr} {o : HO} {ds : List (PyData × PyData)} (h : OwnD K B q o ds) : OwnD K B' q o ds := by
  rcases h with ⟨kk, h1, h2, h3⟩ | ⟨h0, h2, es, ep, kvs, h3, ⟨ys, g1, g2, g3, g4⟩, h5⟩
  · exact .inl ⟨kk, h1, Paired.mapP h2 fun x d z => ⟨z.1, l.dq z.2⟩, h3⟩
  · exact .inr ⟨h0, h2, es, ep, kvs, h3, ⟨ys, g1, g2, Paired.mapP g3 fun y x z => ⟨⟨z.1.1, l.key z.1.2.1, z.1.2.2⟩, z.2⟩, g4⟩, Paired.mapP h5 fun x d z => ⟨z.1, l.dq z.2⟩⟩
theorem lk_cn (l : Lk p ks B B') {q : Addr} {o : HO} {c : Cn} (h : CnO K B q o c) : CnO K B' q o c := by
  cases c with
  | l xs =>
    obtain ⟨vs, h1, h2⟩ := h
    exact ⟨vs, h1, l.dqa h2⟩
  | q ds => exact lk_own l h
  | u xs => exact h
theorem At.lk {W : Wo} {σ : L2.St} {e : En} {u : HO} (a : At W σ e B H) (l : Lk p ks B (upd B p u)) : At W σ e (upd B p u) (upd H p u) where
  ex := fun b o h => by
    by_cases c : b = p
    · subst c
      rw [upd_same] at h ⊢
      exact h
    · rw [upd_ne c] at h ⊢
      exact a.ex b o h
  nm := fun b hb => by
    by_cases c : b = p
    · subst c
      rw [upd_same] at hb
      cases hb
    · rw [upd_ne c] at hb
      exact a.nm b hb
  len := a.len
  dat := fun i x h => by
    obtain ⟨v, h1, h2⟩ := a.dat i x h
    exact ⟨v, h1, l.dq h2⟩
  own := fun i s xs h1 h2 => by
    obtain ⟨q, vs, g1, g2, g3, g4, g5⟩ := a.own i s xs h1 h2
    have qp : q ≠ p := fun c => by
      subst c
      have := l.non.mp g3
      rw [upd_same] at this
      cases this
    exact ⟨q, vs, g1, g2, l.non.mp g3, by rw [upd_ne qp]; exact g4, lk_cn l g5⟩
  sep := a.sep
  pin := a.pin
end
/-! ### the comprehension from its walk on -/
section
variable {K : PySem.W.Frag} {J : It} {g : TG} {tt : TT} {te : TE} {sl vs : List Nat} {fg : PyData → En → Option En} {ft : Dn Bool} {f : Dn PyData}
theorem lc_run (hg : SG K g sl fg) (ht : ST K tt ft) (he : SE K te f) (hs : ∀ i ∈ sl, i ∈ vs) {W : Wo} (hW : W.K = K) {σ : L2.St} {e e1 e2 : En} {B H B1 H1 : Hp} {ds ys : List PyData} (a1 : At W σ e1 B1 H1) (g1 : Gx σ e B H e1 B1 H1) (wk : Wk K J B1 ds)
    (hf : vsFree e1 vs = true) (hlen : ds.length ≤ 40000) (h2 : runLc fg ft f vs ds (wipeE e1 vs) = some (ys, e2)) (Q : VK)
    (q : ∀ p vs' B' H', At W σ (restE e1 e2 vs) B' H' → Gx σ e B H (restE e1 e2 vs) B' H' → H p = none → H' p = some (.lst vs') → B' p = none → DqAll K B' vs' ys → Q (.ref p) H') : tLc (fun _ H R => R J H) g tt te vs σ H1 Q := by
  refine fun Dl hD => ?_
  have hpn := free_pn a1 hf
  have noD : ¬ Ow σ e1 Dl := fun z => (a1.ow z).2.1 hD
  have BD : B1 Dl = none := fresh_back a1.ex hD
  have aw : At W (L2.wipe σ vs) (wipeE e1 vs) B1 H1 := a1.wipe hpn
  refine ⟨fun i m H' => ∃ (e' : En) (B' : Hp) (acc : List V) (accd ys' : List PyData), At W (L2.wipe σ vs) e' B' H' ∧ Go (Ow σ e1) B1 H1 B' H' ∧ (∀ b, Ow (L2.wipe σ vs) e' b → Ow σ e1 b) ∧ H' Dl = some (.lst acc) ∧ B' Dl = none ∧ DqAll K B' acc accd ∧ i ≤ ds.length ∧ m = ds.length - i ∧
    runLc fg ft f vs (ds.drop i) e' = some (ys', e2) ∧ accd ++ ys' = ys ∧ accd.length ≤ i, ⟨_, _, B1, [], [], ys, aw.oth BD (fun z => noD (ow_wipe z)), (Go.refl _ _ _).put hD, fun b => ow_wipe, upd_same, BD, .nil, Nat.zero_le _, rfl, h2, rfl, Nat.le_refl _⟩, ?_⟩
  rintro i m H' ⟨e', B', acc, accd, ys', a', g', o', hl', hB', hd', hi', rfl, hr', hys, hal⟩
  by_cases hlt : i < ds.length
  · refine .inr ⟨wk.go i B' H' g'.hg a'.ex hlt, fun H2 => ∃ (e' : En) (B' : Hp) (acc : List V) (accd ys' : List PyData), At W (L2.wipe σ vs) e' B' H2 ∧ Go (Ow σ e1) B1 H1 B' H2 ∧ (∀ b, Ow (L2.wipe σ vs) e' b → Ow σ e1 b) ∧ H2 Dl = some (.lst acc) ∧ B' Dl = none ∧ DqAll K B' acc accd ∧
      runLc fg ft f vs (ds.drop (i + 1)) e' = some (ys', e2) ∧ accd ++ ys' = ys ∧ accd.length ≤ i + 1, ?_, ?_⟩
    · rintro H2 ⟨e', B', acc, accd, ys', p1, p2, p3, p4, p5, p6, p7, p8, p9⟩
      exact ⟨ds.length - (i + 1), by omega, e', B', acc, accd, ys', p1, p2, p3, p4, p5, p6, hlt, rfl, p7, p8, p9⟩
    intro x H2 hy
    obtain ⟨B2, gr, hdx⟩ := wk.yl i ds[i] B' H' x H2 g'.hg a'.ex (List.getElem?_eq_getElem hlt) hy
    rw [List.drop_eq_getElem_cons hlt] at hr'
    unfold runLc at hr'
    have a2 := a'.gr gr
    have g2 : Go (Ow σ e1) B1 H1 B2 H2 := g'.trans (.gr gr)
    split at hr'
    · cases hr'
    rename_i e3 h3
    refine hg W hW (L2.wipe σ vs) e' B2 H2 x _ a2 hdx e3 h3 _ fun σ3 a3 o3 w3 l3 => ?_
    have sw : L2.wipe σ3 vs = L2.wipe σ vs := by
      rw [← wipe_wipe σ vs]
      exact wipe_same l3 fun j hj => w3 j fun z => hj (hs j z)
    refine ⟨sw, ?_⟩
    have o3' : ∀ b, Ow σ3 e3 b → Ow σ e1 b := fun b hb => o' b (o3 b hb)
    have no3 : ¬ Ow σ3 e3 Dl := fun z => noD (o3' _ z)
    have hl2 : H2 Dl = some (.lst acc) := gr.h12 _ _ hl'
    have hne2 : H2 Dl ≠ none := by rw [hl2]; exact fun z => nomatch z
    have hB2 : B2 Dl = none := gr.sep Dl hB' (by rw [hl']; exact fun z => nomatch z)
    split at hr'
    · cases hr'
    · rename_i e4 h4
      refine ht W hW σ3 e3 B2 H2 a3 _ e4 h4 _ fun B4 H4 a4 g4 => ?_
      rw [if_neg Bool.false_ne_true]
      have a5 := a4.wipe hpn
      rw [sw] at a5
      refine ⟨wipeE e4 vs, B4, acc, accd, ys', a5, g2.trans (g4.go.mono o3'), fun b hb => o3' b (g4.ow b ?_), g4.go.fr _ _ no3 hl2, g4.go.sp Dl no3 hB2 hne2, dpa_mono (gr.hg.trans g4.go.hg) hd', hr', hys, by omega⟩
      rw [← sw] at hb
      exact ow_wipe hb
    · rename_i e4 h4
      refine ht W hW σ3 e3 B2 H2 a3 _ e4 h4 _ fun B4 H4 a4 g4 => ?_
      rw [if_pos rfl]
      split at hr'
      · cases hr'
      rename_i y e5 h5
      split at hr'
      · cases hr'
      rename_i ys3 e6 h6
      cases hr'
      have hl4 := g4.go.fr _ _ no3 hl2
      have hB4 := g4.go.sp Dl no3 hB2 hne2
      have no4 : ¬ Ow σ3 e4 Dl := fun z => no3 (g4.ow _ z)
      refine he W hW σ3 e4 B4 H4 a4 y e5 h5 _ fun v B5 H5 a5 g5 d5 => ?_
      have hl5 := g5.go.fr _ _ no4 hl4
      have hB5 := g5.go.sp Dl no4 hB4 (by rw [hl4]; exact fun z => nomatch z)
      have no5 : ¬ Ow σ3 e5 Dl := fun z => no4 (g5.ow _ z)
      have hal2 := DqAll.length hd'
      have a6 := (a5.oth (o := .lst (acc ++ [v])) hB5 no5).wipe hpn
      rw [sw] at a6
      refine ⟨acc, hl5, sz_lt (by omega), wipeE e5 vs, B5, acc ++ [v], accd ++ [y], ys3, a6, Go.put ((g2.trans (g4.go.mono o3')).trans (g5.go.mono fun b hb => o3' b (g4.ow b hb))) hD, fun b hb => o3' b (g4.ow b (g5.ow b ?_)), upd_same, hB5, ?_, h6, ?_, ?_⟩
      · rw [← sw] at hb
        exact ow_wipe hb
      · exact (dpa_mono ((gr.hg.trans g4.go.hg).trans g5.go.hg) hd').append (.one d5)
      · rw [List.append_assoc]
        exact hys
      · rw [List.length_append]
        show accd.length + 1 ≤ i + 1
        omega
  · have ei : i = ds.length := by omega
    subst ei
    rw [List.drop_length] at hr'
    unfold runLc at hr'
    cases hr'
    rw [List.append_nil] at hys
    subst hys
    refine .inl ⟨wk.st B' H' g'.hg a'.ex, ?_⟩
    exact q Dl acc B' H' (a1.rest hf g'.hg a') (g1.trans ⟨g', fun b hb => o' b (ow_rest hf hb)⟩) (g1.go.dm Dl hD) hl' hB' hd'
/-- for k in d, d known, its keys ints and texts -/
def dKeysR (i : Nat) : Dn (List PyData) := fun e => match e[i]? with
  | some (.d (.dict ds)) => if ds.all (fun d => (keyI d.1).isSome) = true then some (ds.map (·.1), e) else none
  | _ => none
theorem keys_nth : ∀ {ds : List (PyData × PyData)} {ks : List (Key × V)}, (ds.map fun d => keyD d.1) = (ks.map fun x => some (nkey x.1)) → (∀ d ∈ ds, (keyI d.1).isSome = true) → ∀ (j : Nat) (k : Key) (v : V), ks[j]? = some (k, v) → ∃ d, ds[j]? = some d ∧ keyI d.1 = some k
  | _, [], _, _, j, k, v, h => by simp at h
  | [], _ :: _, e, _, _, _, _, _ => by cases e
  | d :: ds, x :: ks, e, hk, j, k, v, h => by
    obtain ⟨e1, e2⟩ := List.cons.inj e
    cases j with
    | zero =>
      cases h
      obtain ⟨z, hz⟩ := Option.isSome_iff_exists.mp (hk d (List.mem_cons_self ..))
      refine ⟨d, rfl, ?_⟩
      have e3 : some (nkey z) = some (nkey k) := (keyI_key hz).symm.trans e1
      rw [hz, nkey_inj (Option.some.inj e3)]
    | succ j => simpa using keys_nth e2 (fun d hd => hk d (List.mem_cons_of_mem _ hd)) j k v (by simpa using h)
theorem wk_keys {p : Addr} {od : Obj} {ks : List (Key × V)} {B0 : Hp} {ds : List (PyData × PyData)} (hp : B0 p = some (.frz od (.dK ks))) (he : (ds.map fun d => keyD d.1) = (ks.map fun x => some (nkey x.1))) (hk : ∀ d ∈ ds, (keyI d.1).isSome = true) : Wk K (Itk p od ks) B0 (ds.map (·.1)) := by
  have hl : ds.length = ks.length := by simpa using congrArg List.length he
  refine ⟨fun j B1 H1 x y hj => ⟨y _ _ (x _ _ hp), by rw [List.length_map] at hj; omega⟩, fun B1 H1 x y => ⟨y _ _ (x _ _ hp), by rw [List.length_map]; omega⟩, fun j d B1 H1 v H2 x y hd hy => ?_⟩
  obtain ⟨rfl, k, w, h1, rfl⟩ := hy
  obtain ⟨d', h2, h3⟩ := keys_nth he hk j k w h1
  rw [List.getElem?_map, h2] at hd
  cases hd
  exact ⟨B1, .refl y, keyI_dq h3⟩
theorem sl_lcR {i : Nat} (hg : SG K g sl fg) (ht : ST K tt ft) (he : SE K te f) (hs : ∀ i ∈ sl, i ∈ vs) : SL K (tLockQ (tLc (iKeysR (tVar i)) g tt te vs)) (dLc (dKeysR i) fg ft f vs) := fun W hW σ e B H a ys e' h' Q q => by
  unfold dLc at h'
  split at h'
  · cases h'
  rename_i ds e1 h1
  by_cases hc : (vsFree e1 vs && fewer ds) = true
  case neg =>
    rw [if_neg hc] at h'
    cases h'
  rw [if_pos hc] at h'
  rw [Bool.and_eq_true] at hc
  obtain ⟨hf, hlen⟩ := hc
  have hlen := of_decide_eq_true hlen
  split at h'
  · cases h'
  rename_i ys2 e2 h2
  cases h'
  unfold dKeysR at h1
  split at h1
  case h_2 => cases h1
  rename_i dd hi
  split at h1
  case isFalse => cases h1
  rename_i hk
  cases h1
  have hk := List.all_eq_true.mp hk
  obtain ⟨v, hv, dv⟩ := a.dat i _ hi
  cases dv with
  | dic k1 k2 k3 =>
    rename_i p kvs
    rcases k1 with ⟨h0, es, ep, m1, m2, zs, m3, m4, m5⟩ | ⟨ks, hne, m1, rfl⟩
    · have e0 : dd = [] ∧ es = #[] := by
        cases dd with
        | nil =>
          cases kvs with
          | cons y ys => cases k2
          | nil =>
            cases m5
            have m3 := m3 Uw.P Uw.w
            exact ⟨rfl, by simpa using m3⟩
        | cons d dd =>
          exfalso
          cases m5 with
          | nil => cases k2
          | cons r t =>
            obtain ⟨j, hj⟩ := Option.isSome_iff_exists.mp (hk d (List.mem_cons_self ..))
            have e1 := (keyI_key hj).symm.trans (List.cons.inj k2).1
            obtain ⟨_, _, _, _, e2⟩ := r.2.1
            rw [← r.1, ← Option.some.inj e1] at e2
            cases j <;> cases e2
      obtain ⟨rfl, rfl⟩ := e0
      exact .inr ⟨_, hv, p, rfl, .inr ⟨#[], ep, h0, a.ex _ _ m1, fun _ _ => lc_run hg ht he hs hW a (.refl _ _ _ _) (J := Ikq p #[] ep) (ds := []) ⟨fun j B1 H1 x y hj => (by simp at hj), fun B1 H1 x y => ⟨y _ _ (x _ _ m1), Nat.le_refl _⟩, fun j d B1 H1 v H2 x y hd hy => (by simp at hd)⟩ hf hlen h2 Q q⟩⟩
    · have ke : (dd.map fun d => keyD d.1) = (ks.map fun x => some (nkey x.1)) := by
        rw [k2, List.map_map]
        rfl
      rcases m1 with m1 | ⟨od, m1⟩
      · refine .inl ⟨p, .dK ks, a.ex _ _ m1, trivial, fun od => ⟨_, hv, p, rfl, .inl ⟨od, ks, upd_same, ?_⟩⟩⟩
        have l1 : Lk p ks B (upd B p (.frz od (.dK ks))) := ⟨⟨od, .inl ⟨m1, upd_same⟩⟩, fun b hb => upd_ne hb⟩
        have a1 := a.lk l1
        refine lc_run hg ht he hs hW a1 (.refl _ _ _ _) (wk_keys upd_same ke hk) hf hlen h2 (fun v H' => H' p = some (.frz od (.dK ks)) ∧ Q v (upd H' p (.dK ks))) fun r vs' B' H' a2 g2 r0 hr hB' hd => ?_
        have bp : B' p = some (.frz od (.dK ks)) := g2.go.hg _ _ upd_same
        have hp : H' p = some (.frz od (.dK ks)) := a2.ex _ _ bp
        have rp : r ≠ p := fun c => by
          subst c
          rw [bp] at hB'
          cases hB'
        refine ⟨hp, ?_⟩
        have l2 : Lk p ks B' (upd B' p (.dK ks)) := ⟨⟨od, .inr ⟨bp, upd_same⟩⟩, fun b hb => upd_ne hb⟩
        refine q r vs' _ _ (a2.lk l2) ⟨⟨fun b o hb => ?_, fun b o hb ho => ?_, fun b hb => ?_, fun b hb h1 h3 => ?_⟩, g2.ow⟩ (by rw [upd_ne rp] at r0; exact r0) (by rw [upd_ne rp]; exact hr) (by rw [upd_ne rp]; exact hB') (l2.dqa hd)
        · by_cases c : b = p
          · subst c
            rw [upd_same]
            rw [m1] at hb
            exact hb
          · rw [upd_ne c]
            exact g2.go.hg _ _ (by rw [upd_ne c]; exact hb)
        · by_cases c : b = p
          · subst c
            rw [upd_same]
            rw [a.ex _ _ m1] at ho
            exact ho
          · rw [upd_ne c]
            exact g2.go.fr b o hb (by rw [upd_ne c]; exact ho)
        · by_cases c : b = p
          · subst c
            rw [upd_same] at hb
            cases hb
          · rw [upd_ne c] at hb
            have := g2.go.dm b hb
            rw [upd_ne c] at this
            exact this
        · have c : b ≠ p := fun c => by
            subst c
            rw [m1] at h1
            cases h1
          rw [upd_ne c]
          exact g2.go.sp b hb (by rw [upd_ne c]; exact h1) (by rw [upd_ne c]; exact h3)
      · exact .inr ⟨_, hv, p, rfl, .inl ⟨od, ks, a.ex _ _ m1, lc_run hg ht he hs hW a (.refl _ _ _ _) (wk_keys m1 ke hk) hf hlen h2 Q q⟩⟩
end
end Fd
end

section
set_option Elab.async false
set_option linter.all false
set_option maxRecDepth 100000
set_option maxHeartbeats 1000000
/-! d.pop(k) of a dict of one's own; names.index(name). -/
variable [Fd.Uw]
namespace L2
open PySem PySem.Spec PyProof.Rows Evl
/-- some dict has changed: where it is empty now, its object is known -/
def tExA (te : TE) : TE := fun σ H Q => te σ H fun v H1 => ∃ a ks, H1 a = some (.dK ks) ∧ (ks ≠ [] → Q v H1) ∧ (ks = [] → (a == sysModules) = false → ∀ ep, Q v (upd H1 a (DicO a #[] ep)))
theorem dk_exact {X : Cx} {pins : List (Addr × Obj)} {σ : L2.St} {H : Hp} {s : Shared} {a : Addr} (I : Inv X pins σ H s) (h : H a = some (.dK [])) : (a == sysModules) = false ∧ ∃ ep, Inv X pins σ (upd H a (DicO a #[] ep)) s := by
  obtain ⟨_, hm, vs, rel, dd⟩ := dk_of I.hok h
  cases rel
  obtain ⟨es, ep, raw, hz, _⟩ := dd.raw
  have e0 : es = #[] := Array.eq_empty_of_size_eq_zero (by simpa using hz)
  subst e0
  obtain ⟨o, z, zz⟩ := raw
  exact ⟨hm, ep, I.write (x := a) (e := a) (o := DicO a #[] ep) (h' := s.heap) (t' := s.toks) (by rw [h]; exact True.intro) (.inl rfl) (fun _ _ _ z => z) ⟨o, z⟩ ⟨⟨o, z, zz⟩, ⟨o, z⟩, fun h1 h2 x e => x.at e⟩⟩
theorem pe_exA {X : Cx} {e : Expr} {te : TE} (h : PE X e te) : PE X e (tExA te) := by
  refine ⟨fun pins s σ H Q I hq => thn (h.run pins s σ H _ I hq) fun u s1 ⟨v, H1, I1, r, a, ks, hk, q1, q2⟩ => ?_⟩
  cases ks with
  | cons x xs => exact ⟨v, H1, I1, r, q1 fun z => nomatch z⟩
  | nil =>
    obtain ⟨hm, ep, I2⟩ := dk_exact I1 hk
    exact ⟨v, _, I2, r, q2 rfl hm ep⟩
end L2
namespace Fd
open PySem PySem.Spec PyProof.Rows L2 Evl Tb
def dropD (ds : List (PyData × PyData)) (k : PyData) : List (PyData × PyData) := ds.filter fun d => decide (keyD d.1 ≠ keyD k)
def hasD (ds : List (PyData × PyData)) (k : PyData) : Bool := ds.any fun d => decide (keyD d.1 = keyD k)
def sPopQ (i : Nat) (fk : Dn PyData) : Ds := fun e => match e[i]? with
  | some (.q ds0) => if (!ds0.isEmpty && ds0.all fun d => (keyI d.1).isSome) = true then match fk e with
    | some (k, e1) => match e1[i]? with
      | some (.q ds) => if (hasD ds k && (keyI k).isSome && ds.all fun d => (keyI d.1).isSome) = true then some (.nx (e1.set i (.q (dropD ds k)))) else none
      | _ => none
    | none => none else none
  | _ => none
section
variable {K : PySem.W.Frag} {B : Hp} {te : TE} {f : Dn PyData}
theorem kvd_drop {k : Key} {kd : PyData} (hk : keyD kd = some (nkey k)) : ∀ {kvs : List (Key × V)} {ds : List (PyData × PyData)}, KVD K B kvs ds → KVD K B (dropK kvs k) (dropD ds kd)
  | _, _, .nil => .nil
  | x :: kvs, d :: ds, .cons h t => by
    have ih := kvd_drop hk t
    have e : decide (x.1 ≠ k) = decide (keyD d.1 ≠ keyD kd) := by
      rw [h.1, hk]
      refine decide_eq_decide.mpr ⟨fun c z => c (nkey_inj (Option.some.inj z)), fun c z => c (by rw [z])⟩
    unfold dropK dropD at ih ⊢
    rw [List.filter_cons, List.filter_cons]
    by_cases c : decide (x.1 ≠ k) = true
    · rw [if_pos c, if_pos (e ▸ c)]
      exact .cons h ih
    · rw [if_neg c, if_neg (e ▸ c)]
      exact ih
theorem kvd_has {k : Key} {kd : PyData} (hk : keyD kd = some (nkey k)) : ∀ {kvs : List (Key × V)} {ds : List (PyData × PyData)}, KVD K B kvs ds → hasD ds kd = true → ∃ v, valV kvs k = some v
  | _, _, .nil, h => by cases h
  | x :: kvs, d :: ds, .cons h t, hh => by
    by_cases c : x.1 = k
    · exact ⟨_, valV_pos c⟩
    · have : hasD ds kd = true := by
        unfold hasD at hh ⊢
        rw [List.any_cons, Bool.or_eq_true] at hh
        refine hh.resolve_left fun z => c ?_
        have z := of_decide_eq_true z
        rw [h.1, hk] at z
        exact nkey_inj (Option.some.inj z)
      obtain ⟨v, hv⟩ := kvd_has hk t this
      exact ⟨v, (valV_neg c).trans hv⟩
theorem ss_popQ {i : Nat} (h : SE K te f) : SS K (tDrop (tExA (tDPop1 (tVar i) te))) (sPopQ i f) := fun W hW σ e B H a rs hrs D q => by
  unfold sPopQ at hrs
  split at hrs
  case h_2 => cases hrs
  rename_i ds0 i0
  split at hrs
  case isFalse => cases hrs
  rename_i h0
  rw [Bool.and_eq_true] at h0
  split at hrs
  case h_2 => cases hrs
  rename_i kd e1 h1
  split at hrs
  case h_2 => cases hrs
  rename_i ds i1
  split at hrs
  case isFalse => cases hrs
  rename_i hc
  cases hrs
  rw [Bool.and_eq_true, Bool.and_eq_true] at hc
  obtain ⟨⟨c1, c2⟩, c3⟩ := hc
  obtain ⟨k, hk⟩ := Option.isSome_iff_exists.mp c2
  have c3 := List.all_eq_true.mp c3
  obtain ⟨p, o0, k1, kM, kB, k4, k5⟩ := a.own i _ (.q ds0) i0 rfl
  refine ⟨_, k1, p, rfl, ?_, h W hW σ e B H a kd e1 h1 _ fun y B2 H2 a2 g2 d2 => ?_⟩
  · have k5 : OwnD K B p o0 ds0 := hW ▸ k5
    rcases k5 with ⟨ks, rfl, r, hne⟩ | ⟨z0, z2, es, ep, kvs, rfl, ⟨ys, y1, y2, y3, y4⟩, z7⟩
    · exact .inl ⟨ks, .inl k4⟩
    · exfalso
      cases z7 with
      | nil => cases h0.1
      | cons r t =>
        cases y3 with
        | cons r2 t2 =>
          obtain ⟨z, hz⟩ := Option.isSome_iff_exists.mp (List.all_eq_true.mp h0.2 _ (List.mem_cons_self ..))
          have e1 := r.1
          rw [keyI_key hz] at e1
          have e2 := r2.2
          rw [← r2.1.1, ← Option.some.inj e1] at e2
          cases z <;> cases e2
  obtain ⟨p', oo, k2, m1, m3, m4, m5⟩ := a2.own i _ (.q ds) i1 rfl
  rw [k1] at k2
  cases k2
  have m5 : OwnD K B2 p oo ds := hW ▸ m5
  rcases m5 with ⟨ks, rfl, r, hne⟩ | ⟨z0, z2, es, ep, kvs, rfl, ⟨ys, y1, y2, y3, y4⟩, z7⟩
  · obtain ⟨v, hv⟩ := kvd_has (keyI_key hk) r c1
    have rd := kvd_drop (keyI_key hk) r
    have fin : ∀ o' : HO, OwnD K B2 p o' (dropD ds kd) → D.nx σ (upd H2 p o') := fun o' ho => by
      obtain ⟨a3, g3⟩ := a2.putC (s' := .q (dropD ds kd)) (ys := .q (dropD ds kd)) (vs := o') i1 rfl rfl rfl k1 (hW ▸ ho)
      exact q σ B2 _ a3 ((a.goM g2).trans g3)
    refine ⟨ks, k, v, m4, keyI_v d2 hk, hv, p, dropK ks k, upd_same, fun ne => fin _ (.inl ⟨_, rfl, rd, ne⟩), fun emp hm ep => ?_⟩
    rw [upd_upd]
    rw [emp] at rd
    have : dropD ds kd = [] := List.eq_nil_of_length_eq_zero (KVD.length rd).symm
    refine fin _ ?_
    rw [this]
    exact own_new hm
  · exfalso
    cases z7 with
    | nil => cases c1
    | cons r t =>
      cases y3 with
      | cons r2 t2 =>
        obtain ⟨z, hz⟩ := Option.isSome_iff_exists.mp (c3 _ (List.mem_cons_self ..))
        have e1 := r.1
        rw [keyI_key hz] at e1
        have e2 := r2.2
        rw [← r2.1.1, ← Option.some.inj e1] at e2
        cases z <;> cases e2
/-! ### names.index(name) -/
/-- the first place of it -/
def idxS (x : Str) : List Str → Option Nat
  | [] => none
  | y :: ys => if y = x then some 0 else (idxS x ys).map (· + 1)
theorem idxS_at (x : Str) : ∀ {ys : List Str} {j : Nat}, idxS x ys = some j → ys[j]? = some x ∧ ∀ m, m < j → ys[m]? ≠ some x
  | [], _, h => by cases h
  | y :: ys, j, h => by
    unfold idxS at h
    by_cases c : y = x
    · rw [if_pos c] at h
      cases h
      exact ⟨by rw [c]; rfl, fun m hm => by omega⟩
    · rw [if_neg c] at h
      obtain ⟨i, h1, rfl⟩ := Option.map_eq_some_iff.mp h
      obtain ⟨a, b⟩ := idxS_at x h1
      refine ⟨by simpa using a, fun m hm => ?_⟩
      cases m with
      | zero =>
        intro z
        exact c (Option.some.inj z)
      | succ m =>
        have := b m (by omega)
        simpa using this
def idxSD (xs ds : List PyData) : Option PyData := match ds with
  | [.str x] => match strsOf xs with
    | some ss => (idxS x ss).map fun (j : Nat) => PyData.int (j : Int)
    | none => none
  | _ => none
theorem mk_index {X : Cx} {K : PySem.W.Frag} (h : X.K = K) : MtR X "list.index" (rIndex K) := h ▸ mt_index
theorem mf_index : RMD K (rIndex K) idxSD := fun B H p us vs xs ds z x hp hu hv hF Q q => by
  unfold idxSD at hF
  split at hF
  · rename_i y
    split at hF
    · rename_i ss h1
      obtain ⟨j, h2, rfl⟩ := Option.map_eq_some_iff.mp hF
      have e := strs_vals h1 hu
      subst e
      obtain ⟨a, b⟩ := idxS_at y h2
      cases hv with
      | cons h3 h4 =>
        cases h4
        rw [h3.str_of]
        refine ⟨p, ss.map V.str, .str y, j, .str y, rfl, rfl, ex_l x hp, rfl, ?_, by rw [List.getElem?_map, a]; rfl, ?_, fun m z' hm hz => ?_, q _ B H (.refl x) (.int _)⟩
        · rw [List.all_map]
          exact List.all_eq_true.mpr fun _ _ => rfl
        · exact beq_self_eq_true y
        · rw [List.getElem?_map] at hz
          obtain ⟨w, hw, rfl⟩ := Option.map_eq_some_iff.mp hz
          have ne : w ≠ y := fun c => b m hm (by rw [hw, c])
          show (w == y) = false
          simpa using ne
    · cases hF
  · cases hF
end
end Fd
end

section
set_option Elab.async false
set_option linter.all false
set_option maxRecDepth 100000
set_option maxHeartbeats 1000000
/-! What each def means. -/
namespace Tk
open PySem PySem.Spec PyProof.Rows L2 Evl Tb Fd
noncomputable def m_is_whole : Ds :=
    (sRet (dAnd (dUn (isiD "int") (dVar 0)) (dNot (dUn (isiD "bool") (dVar 0)))))
noncomputable def F_is_whole (ds : List PyData) := fnD 0 m_is_whole ds
noncomputable def m_is_row : Ds :=
    (sRet (dUn (isi2D "list" "tuple") (dVar 0)))
noncomputable def F_is_row (ds : List PyData) := fnD 0 m_is_row ds
noncomputable def m__is_name : Ds :=
    (sSeq (sIf (dOrT (dNotT (dTru (dUn (isiD "str") (dVar 0)))) (dNotT (dTest (dChain leD leD (dK (.int 1)) (dCb lenD (dCons (dVar 0) (dK []))) (dK (.int 8))))))
    (sRet (dK (.bool false)))
    (fun e => some (.nx e)))
    (sRet (dCb allD (dCons (dFz (dLc (dChars (dVar 0)) (dName 1) (dK true) (dChain leD leD (dK (.str "a")) (dVar 1) (dK (.str "z"))) [1])) (dK [])))))
noncomputable def F__is_name (ds : List PyData) := fnD 1 m__is_name ds
noncomputable def m__rank_L1 : Ds :=
    (sIf (dTest (dOp eqD (dOp ixD (dVar 3) (dK (.int 1))) (dVar 1)))
    (sRet (dVar 2))
    (fun e => some (.nx e)))
noncomputable def m__rank : Ds :=
    (sSeq (sFor (dEnum (dCons (dVar 0) (dK []))) (dRow 2 (dGs (dName 2) (dGs (dName 3) dNil)))
    m__rank_L1)
    (sRet (dK .none)))
noncomputable def F__rank (ds : List PyData) := fnD 2 m__rank ds
noncomputable def m__as_tuples : Ds :=
    (sRet (dCb tupD (dCons (dFz (dLc (dItems (dVar 0)) (dRow 3 (dGs (dName 1) (dGs (dName 2) (dGs (dName 3) dNil)))) (dK true) (dTup (dCons (dVar 1) (dCons (dVar 2) (dCons (dVar 3) (dK []))))) [1, 2, 3])) (dK []))))
noncomputable def F__as_tuples (ds : List PyData) := fnD 3 m__as_tuples ds
noncomputable def m__law_cell_at : Ds :=
    (sRet (dIf (dTest (dOp ltD (dVar 1) (dCb lenD (dCons (dVar 0) (dK []))))) (dOp ixD (dVar 0) (dVar 1)) (dK (.int 0))))
noncomputable def F__law_cell_at (ds : List PyData) := fnD 0 m__law_cell_at ds
noncomputable def m__law_well : Ds :=
    (sRetL (dLst (dCons (dOp mulD (dVar 0) (dCb intD (dCons (dOp geD (dVar 0) (dOp powD (dK (.int 10)) (dK (.int 18)))) (dK [])))) (dCons (dOp modD (dCb intD (dCons (dVar 0) (dK []))) (dK (.int 2147483629))) (dCons (dK (.int 0)) (dK []))))))
noncomputable def F__law_well (ds : List PyData) := fnL 0 m__law_well ds
noncomputable def m__law_draw : Ds :=
    (sSeq (sIf (dTest (dOp gtD (dIxV 0 (dK (.int 0))) (dK (.int 0))))
    (sSeq (sAsg (dOp modD (dCb intD (dCons (dIxV 0 (dK (.int 0))) (dK []))) (dVar 1)) (dName 2))
    (sSeq (sSetIx 0 (dOp divD (dIxV 0 (dK (.int 0))) (dVar 1)) (dK (.int 0)))
    (sRet (dVar 2))))
    (fun e => some (.nx e)))
    (sSeq (sSetIx 0 (dOp addD (dIxV 0 (dK (.int 2))) (dK (.int 1))) (dK (.int 2)))
    (sSeq (sAsg (dOp modD (dCb intD (dCons (dOp mulD (dOp addD (dOp addD (dIxV 0 (dK (.int 1))) (dOp mulD (dK (.int 9973)) (dIxV 0 (dK (.int 2))))) (dK (.int 17))) (dK (.int 48271))) (dK []))) (dK (.int 2147483647))) (dName 3))
    (sSeq (sAsg (dOp modD (dCb intD (dCons (dOp mulD (dVar 3) (dOp addD (dOp addD (dOp divD (dVar 3) (dK (.int 1021))) (dK (.int 69621))) (dIxV 0 (dK (.int 2))))) (dK []))) (dK (.int 2147483587))) (dName 3))
    (sRet (dOp modD (dCb intD (dCons (dOp divD (dOp modD (dCb intD (dCons (dOp mulD (dVar 3) (dOp addD (dOp divD (dVar 3) (dK (.int 2011))) (dK (.int 40692)))) (dK []))) (dK (.int 2147483399))) (dK (.int 7))) (dK []))) (dVar 1)))))))
noncomputable def F__law_draw (xs ds : List PyData) := fnM 2 m__law_draw xs ds
noncomputable def m__law_due : Ds :=
    (sRet (dCb tupD (dCons (dFz (dCbL sortedVD (dCons (dFz (dLc (dKeysR 0) (dName 1) (dK true) (dTup (dCons (dOp ixD (dOp ixQD (dVar 0) (dVar 1)) (dK (.int 0))) (dCons (dVar 1) (dCons (dOp ixD (dOp ixQD (dVar 0) (dVar 1)) (dK (.int 1))) (dK []))))) [1])) (dK [])))) (dK []))))
noncomputable def F__law_due (ds : List PyData) := fnD 1 m__law_due ds
noncomputable def m_check_number : Ds :=
    (sSeq (sIf (dOrT (dNotT (dTru (dCall 1 F_is_whole [] (dCons (dVar 0) (dK []))))) (dTest (dOp ltD (dVar 0) (dVar 1))))
    sNever
    (fun e => some (.nx e)))
    (sIf (dAndT (dTest (dOp notNonD (dVar 2) (dK .none))) (dTest (dOp gtD (dVar 0) (dVar 2))))
    sNever
    (fun e => some (.nx e))))
noncomputable def F_check_number (ds : List PyData) := fnD 0 m_check_number ds
noncomputable def m_check_key : Ds :=
    (sIf (dNotT (dTru (dCall 1 F_is_whole [] (dCons (dVar 0) (dK [])))))
    sNever
    (fun e => some (.nx e)))
noncomputable def F_check_key (ds : List PyData) := fnD 0 m_check_key ds
noncomputable def m__is_item : Ds :=
    (sSeq (sIf (dOrT (dNotT (dTru (dCall 1 F_is_row [] (dCons (dVar 0) (dK []))))) (dTest (dOp neD (dCb lenD (dCons (dVar 0) (dK []))) (dK (.int 3)))))
    (sRet (dK (.bool false)))
    (fun e => some (.nx e)))
    (sSeq (sAsg (dVar 0) (dRow 3 (dGs (dName 1) (dGs (dName 2) (dGs (dName 3) dNil)))))
    (sRet (dAnd (dCall 1 F_is_whole [] (dCons (dVar 1) (dK []))) (dAnd (dCall 1 F__is_name [] (dCons (dVar 2) (dK []))) (dAnd (dCall 1 F_is_whole [] (dCons (dVar 3) (dK []))) (dOp geD (dVar 3) (dK (.int 1)))))))))
noncomputable def F__is_item (ds : List PyData) := fnD 3 m__is_item ds
noncomputable def m__check_name : Ds :=
    (sIf (dNotT (dTru (dCall 1 F__is_name [] (dCons (dVar 0) (dK [])))))
    sNever
    (fun e => some (.nx e)))
noncomputable def F__check_name (ds : List PyData) := fnD 0 m__check_name ds
noncomputable def m__law_one : Ds :=
    (sRet (dOp ixD (dVar 1) (dCallM 0 2 F__law_draw (dCons (dCb lenD (dCons (dVar 1) (dK []))) (dK [])))))
noncomputable def F__law_one (xs ds : List PyData) := fnM 0 m__law_one xs ds
noncomputable def m__wrong_item_L1 : Ds :=
    (sSeq (sIf (dOrT (dNotT (dTru (dCall 1 F__is_item [] (dCons (dVar 3) (dK []))))) (dTest (dInS 1 false (dOp ixD (dVar 3) (dK (.int 1))))))
    (sRet (dVar 2))
    (fun e => some (.nx e)))
    (sSeq (sIf (dAndT (dTest (dOp gtD (dVar 2) (dK (.int 0)))) (dTest (dOp ltVD (dCb tupD (dCons (dSl (dVar 3) (dK none) (dPart (dK (.int 2)))) (dK []))) (dCb tupD (dCons (dSl (dOp ixD (dVar 0) (dOp subD (dVar 2) (dK (.int 1)))) (dK none) (dPart (dK (.int 2)))) (dK []))))))
    (sRet (dVar 2))
    (fun e => some (.nx e)))
    (sAddU 1 (dOp ixD (dVar 3) (dK (.int 1))))))
noncomputable def m__wrong_item : Ds :=
    (sSeq (sIf (dNotT (dTru (dCall 1 F_is_row [] (dCons (dVar 0) (dK [])))))
    (sRet (dUn negD (dK (.int 1))))
    (fun e => some (.nx e)))
    (sSeq (sAsgU 1)
    (sSeq (sFor (dEnum (dCons (dVar 0) (dK []))) (dRow 2 (dGs (dName 2) (dGs (dName 3) dNil)))
    m__wrong_item_L1)
    (sRet (dK .none)))))
noncomputable def F__wrong_item (ds : List PyData) := fnD 3 m__wrong_item ds
noncomputable def m__law_name : Ds :=
    (sRet (dCallM 0 2 F__law_one (dCons (dFz (dLst (dCons (dK (.str "a")) (dCons (dK (.str "b")) (dCons (dK (.str "c")) (dCons (dK (.str "ab")) (dCons (dK (.str "ba")) (dCons (dK (.str "z")) (dCons (dK (.str "zz")) (dCons (dK (.str "abcdefgh")) (dCons (dK (.str "zzzzzzzz")) (dCons (dK (.str "m")) (dK []))))))))))))) (dK []))))
noncomputable def F__law_name (xs ds : List PyData) := fnM 0 m__law_name xs ds
noncomputable def m_is_scored : Ds :=
    (sRet (dOp isNonD' (dCall 1 F__wrong_item [] (dCons (dVar 0) (dK []))) (dK .none)))
noncomputable def F_is_scored (ds : List PyData) := fnD 0 m_is_scored ds
noncomputable def m__check_items : Ds :=
    (sSeq (sAsg (dCall 1 F__wrong_item [] (dCons (dVar 0) (dK []))) (dName 1))
    (sIf (dTest (dOp notNonD (dVar 1) (dK .none)))
    sNever
    (fun e => some (.nx e))))
noncomputable def F__check_items (ds : List PyData) := fnD 1 m__check_items ds
noncomputable def m__law_items_L1 : Ds :=
    (sSetQ 2 (dTup (dCons (dCallM 0 2 F__law_one (dCons (dFz (dLst (dCons (dK (.int 0)) (dCons (dK (.int 0)) (dCons (dK (.int 1)) (dCons (dUn negD (dK (.int 1))) (dCons (dK (.int 7)) (dCons (dOp powD (dK (.int 10)) (dK (.int 29))) (dK []))))))))) (dK []))) (dCons (dOp addD (dK (.int 1)) (dCallM 0 2 F__law_draw (dCons (dK (.int 4)) (dK [])))) (dK [])))) (dCallM 0 1 F__law_name (dK [])))
noncomputable def m__law_items : Ds :=
    (sSeq (sAsgQ dQ0 2)
    (sSeq (sFor (dRg1 (dCons (dCallM 0 2 F__law_draw (dCons (dOp addD (dVar 1) (dK (.int 1))) (dK []))) (dK []))) (dName 3)
    m__law_items_L1)
    (sRetL (dCbL sortedVD (dCons (dFz (dLc (dKeysO 2) (dName 4) (dK true) (dTup (dCons (dOp ixD (dOp ixQD (dVar 2) (dVar 4)) (dK (.int 0))) (dCons (dVar 4) (dCons (dOp ixD (dOp ixQD (dVar 2) (dVar 4)) (dK (.int 1))) (dK []))))) [4])) (dK []))))))
noncomputable def F__law_items (xs ds : List PyData) := fnML 3 m__law_items xs ds
noncomputable def m_added : Ds :=
    (sSeq (sDrop (dCall 1 F__check_items [] (dCons (dVar 0) (dK []))))
    (sSeq (sDrop (dCall 1 F__check_name [] (dCons (dVar 1) (dK []))))
    (sSeq (sDrop (dCall 1 F_check_key [] (dCons (dVar 2) (dK []))))
    (sSeq (sDrop (dCall 3 F_check_number [.none] (dCons (dVar 3) (dCons (dK (.int 1)) (dK [])))))
    (sSeq (sAsg (dCall 1 F__as_tuples [] (dCons (dVar 0) (dK []))) (dName 4))
    (sSeq (sIf (dTest (dOp inXD (dTup (dCons (dVar 2) (dCons (dVar 1) (dK [])))) (dFz (dLc (dItems (dVar 4)) (dName 6) (dK true) (dSl (dVar 6) (dK none) (dPart (dK (.int 2)))) [6]))))
    (sRet (dVar 4))
    (fun e => some (.nx e)))
    (sSeq (sAsg (dFz (dLc (dItems (dVar 4)) (dName 6) (dTest (dOp neD (dOp ixD (dVar 6) (dK (.int 1))) (dVar 1))) (dVar 6) [6])) (dName 5))
    (sRet (dCb tupD (dCons (dFz (dCbL sortedVD (dCons (dOp addD (dVar 5) (dFz (dLst (dCons (dTup (dCons (dVar 2) (dCons (dVar 1) (dCons (dVar 3) (dK []))))) (dK []))))) (dK [])))) (dK [])))))))))))
noncomputable def F_added (ds : List PyData) := fnD 3 m_added ds
noncomputable def m_dropped : Ds :=
    (sSeq (sDrop (dCall 1 F__check_items [] (dCons (dVar 0) (dK []))))
    (sSeq (sIf (dTest (dOp isNonD' (dCall 2 F__rank [] (dCons (dVar 0) (dCons (dVar 1) (dK [])))) (dK .none)))
    sNever
    (fun e => some (.nx e)))
    (sRet (dCb tupD (dCons (dFz (dLc (dItems (dCall 1 F__as_tuples [] (dCons (dVar 0) (dK [])))) (dName 2) (dTest (dOp neD (dOp ixD (dVar 2) (dK (.int 1))) (dVar 1))) (dVar 2) [2])) (dK []))))))
noncomputable def F_dropped (ds : List PyData) := fnD 1 m_dropped ds
noncomputable def m_place_of : Ds :=
    (sSeq (sDrop (dCall 1 F__check_items [] (dCons (dVar 0) (dK []))))
    (sSeq (sDrop (dCall 1 F__check_name [] (dCons (dVar 1) (dK []))))
    (sSeq (sAsg (dCall 2 F__rank [] (dCons (dVar 0) (dCons (dVar 1) (dK [])))) (dName 2))
    (sSeq (sIf (dTest (dOp isNonD' (dVar 2) (dK .none)))
    (sRet (dK .none))
    (fun e => some (.nx e)))
    (sRet (dTup (dCons (dVar 2) (dCons (dOp subD (dOp subD (dCb lenD (dCons (dVar 0) (dK []))) (dK (.int 1))) (dVar 2)) (dK [])))))))))
noncomputable def F_place_of (ds : List PyData) := fnD 1 m_place_of ds
noncomputable def m__law_places_right_L1 : Ds :=
    (sSeq (sAsg (dIf (dTest (dOp inXD (dVar 2) (dVar 3))) (dTup (dCons (dMt idxSD (dVar 3) (dCons (dVar 2) (dK []))) (dCons (dOp subD (dOp subD (dCb lenD (dCons (dVar 3) (dK []))) (dK (.int 1))) (dMt idxSD (dVar 3) (dCons (dVar 2) (dK [])))) (dK [])))) (dK .none)) (dName 4))
    (sIf (dTest (dOp neD (dCall 2 F_place_of [] (dCons (dVar 0) (dCons (dVar 2) (dK [])))) (dVar 4)))
    (sRet (dK (.bool false)))
    (fun e => some (.nx e))))
noncomputable def m__law_places_right : Ds :=
    (sSeq (sAsg (dFz (dLc (dItems (dCall 1 F__law_due [] (dCons (dVar 1) (dK [])))) (dRow 3 (dGs (dName 5) (dGs (dName 2) (dGs (dName 6) dNil)))) (dK true) (dVar 2) [5, 2, 6])) (dName 3))
    (sSeq (sFor (dItems (dFz (dLst (dCons (dK (.str "a")) (dCons (dK (.str "b")) (dCons (dK (.str "c")) (dCons (dK (.str "ab")) (dCons (dK (.str "ba")) (dCons (dK (.str "z")) (dCons (dK (.str "zz")) (dCons (dK (.str "abcdefgh")) (dCons (dK (.str "zzzzzzzz")) (dCons (dK (.str "m")) (dCons (dK (.str "y")) (dK []))))))))))))))) (dName 2)
    m__law_places_right_L1)
    (sRet (dAnd (dCall 1 F_is_scored [] (dCons (dVar 0) (dK []))) (dOp isNonD' (dCall 2 F_place_of [] (dCons (dFz (dCbL lstD (dCons (dVar 0) (dK [])))) (dCons (dK (.str "y")) (dK [])))) (dK .none))))))
noncomputable def F__law_places_right (ds : List PyData) := fnD 5 m__law_places_right ds
noncomputable def m_law_L1 : Ds :=
    (sSeq (sPar (dCons (dCallM 2 1 F__law_name (dK [])) (dCons (dVar 3) (dK []))) [6, 7])
    (sSeq (sIf (dAndT (dTest (dBor (dOp inQD (dVar 6) (dVar 4)))) (dTest (dOp eqD (dCallM 2 2 F__law_draw (dCons (dK (.int 3)) (dK []))) (dK (.int 0)))))
    (sSeq (sFree (dLc (dItems (dVar 3)) (dName 8) (dK true) (dFz (dLstV 8)) [8]) 9 8 (sAsg (dCall 2 F_dropped [] (dCons (dVar 9) (dCons (dVar 6) (dK [])))) (dName 3)))
    (sPopQ 4 (dVar 6)))
    (sSeq (sPar (dCons (dCallM 2 2 F__law_one (dCons (dFz (dLst (dCons (dK (.int 0)) (dCons (dK (.int 0)) (dCons (dK (.int 1)) (dCons (dUn negD (dK (.int 1))) (dCons (dK (.int 7)) (dCons (dOp powD (dK (.int 10)) (dK (.int 29))) (dK []))))))))) (dK []))) (dCons (dOp addD (dK (.int 1)) (dCallM 2 2 F__law_draw (dCons (dK (.int 5)) (dK [])))) (dK []))) [10, 11])
    (sSeq (sAsg (dCall 4 F_added [] (dCons (dFz (dLc (dItems (dVar 3)) (dName 8) (dK true) (dFz (dLstV 8)) [8])) (dCons (dVar 6) (dCons (dVar 10) (dCons (dVar 11) (dK [])))))) (dName 3))
    (sIf (dOrT (dTest (dBor (dOp notInQD (dVar 6) (dVar 4)))) (dTest (dBor (dOp neD (dOp ixD (dOp ixQD (dVar 4) (dVar 6)) (dK (.int 0))) (dVar 10)))))
    (sSetQ 4 (dTup (dCons (dVar 10) (dCons (dVar 11) (dK [])))) (dVar 6))
    (fun e => some (.nx e))))))
    (sIf (dOrT (dTest (dBor (dOp neD (dVar 3) (dCall 1 F__law_due [] (dCons (dVar 4) (dK [])))))) (dOrT (dNotT (dTru (dUn (isiD "tuple") (dVar 7)))) (dNotT (dTru (dBor (dCall 2 F__law_places_right [] (dCons (dVar 3) (dCons (dVar 4) (dK [])))))))))
    (sRet (dK (.bool false)))
    (fun e => some (.nx e)))))
noncomputable def m_law_L2 : Ds :=
    (sSeq (sAsgO (dCallL 1 F__law_well [] (dCons (dVar 1) (dK []))) 2)
    (sSeq (sParX (xCons (dTup (dK [])) (xConsQ dQ0 xNil)) [3, 4])
    (sFor (dRg1 (dCons (dCallM 2 2 F__law_one (dCons (dFz (dLst (dCons (dK (.int 4)) (dCons (dK (.int 20)) (dK []))))) (dK []))) (dK []))) (dName 5)
    m_law_L1)))
noncomputable def m_law : Ds :=
    (sSeq (sFor (dItems (dOp addD (dSl (dVar 0) (dK none) (dPart (dK (.int 4)))) (dFz (dLst (dCons (dK (.int 0)) (dK [])))))) (dName 1)
    m_law_L2)
    (sRet (dK (.bool true))))
noncomputable def F_law (ds : List PyData) := fnD 11 m_law ds
end Tk
end

section
set_option Elab.async false
set_option linter.all false
set_option maxRecDepth 100000
set_option maxHeartbeats 1000000
/-! Each def does what it means. -/
namespace Tk
open PySem PySem.Spec PyProof.Rows L2 Evl Tb Fd
def topS (i : Nat) : Stmt := PySem.Challenge.pw_tosslanes_k44_whole_scored_rows.main.body.getD i (.Pass ⟨0, 0, 0, 0⟩)
section
variable {P : Program} {w : World} {K : PySem.W.Frag} {mg : Str → Option Value} {base : Heap} {CX : CXT} {f : Addr} {fd : FuncData}
abbrev s_is_whole : Stmt := topS 7
abbrev n_is_whole : List Str := ["thing"]
theorem sc_is_whole : FnScope n_is_whole ["thing"] (defScope s_is_whole) := ⟨rfl, rfl, rfl, by decide +kernel, rfl, by decide +kernel, by decide +kernel⟩
theorem H_is_whole (bl : Bm mg) (nx : NoY CX) (F : FunD K "is_whole" "is_whole" (defArgs s_is_whole) (defBody s_is_whole) (defScope s_is_whole) [] [] f fd) (hm : mg "is_whole" = some (.ref f)) :
    Has P w K mg base CX "is_whole" 1 ["thing"] [] (spF K 1 F_is_whole) := by
  letI : Fd.Uw := ⟨P, w⟩
  refine has_mk F hm sc_is_whole (spF_len rfl) (fun _ _ _ _ _ _ us hl => match us, hl with | [_], _ => rfl) fun cdv A outer s H vs Q E hr h => ?_
  refine ⟨_, (pss_one (ps_ret (pe_and (pe_callB (ck_isi (K := K) rfl) (by rfl) bl.isinstance bb_isinstance (pa_cons (pv 0) (pa_cons (pe_bltn (v := .ty "int") (by rfl) bl.int bb_int rfl) pa_nil))) (pe_one (pe_not (pe_callB (ck_isi (K := K) rfl) (by rfl) bl.isinstance bb_isinstance (pa_cons (pv 0) (pa_cons (pe_bltn (v := .ty "bool") (by rfl) bl.bool bb_bool rfl) pa_nil)))))))), body_F (n := 0) ?_ rfl h⟩
  exact (ss_ret (se_and (se_isi se_var) (se_not (se_isi se_var))))
abbrev s_is_row : Stmt := topS 8
abbrev n_is_row : List Str := ["thing"]
theorem sc_is_row : FnScope n_is_row ["thing"] (defScope s_is_row) := ⟨rfl, rfl, rfl, by decide +kernel, rfl, by decide +kernel, by decide +kernel⟩
theorem H_is_row (bl : Bm mg) (nx : NoY CX) (F : FunD K "is_row" "is_row" (defArgs s_is_row) (defBody s_is_row) (defScope s_is_row) [] [] f fd) (hm : mg "is_row" = some (.ref f)) :
    Has P w K mg base CX "is_row" 1 ["thing"] [] (spF K 1 F_is_row) := by
  letI : Fd.Uw := ⟨P, w⟩
  refine has_mk F hm sc_is_row (spF_len rfl) (fun _ _ _ _ _ _ us hl => match us, hl with | [_], _ => rfl) fun cdv A outer s H vs Q E hr h => ?_
  refine ⟨_, (pss_one (ps_ret (pe_callB (ck_isiT (K := K) rfl) (by rfl) bl.isinstance bb_isinstance (pa_cons (pv 0) (pa_cons (pe_tup (pa_cons (pe_bltn (v := .ty "list") (by rfl) bl.list bb_list rfl) (pa_cons (pe_bltn (v := .ty "tuple") (by rfl) bl.tuple bb_tuple rfl) pa_nil))) pa_nil))))), body_F (n := 0) ?_ rfl h⟩
  exact (ss_ret (se_isi2 se_var))
abbrev s__is_name : Stmt := topS 17
abbrev n__is_name : List Str := ["thing", "sign"]
theorem sc__is_name : FnScope n__is_name ["thing"] (defScope s__is_name) := ⟨rfl, rfl, rfl, by decide +kernel, rfl, by decide +kernel, by decide +kernel⟩
theorem H__is_name (bl : Bm mg) (nx : NoY CX) {u_LONGEST_NAME : Value} (g_LONGEST_NAME : mg "LONGEST_NAME" = some u_LONGEST_NAME) (r_LONGEST_NAME : RelV (.int 8) u_LONGEST_NAME) (F : FunD K "_is_name" "_is_name" (defArgs s__is_name) (defBody s__is_name) (defScope s__is_name) [] [] f fd) (hm : mg "_is_name" = some (.ref f)) :
    Has P w K mg base CX "_is_name" 1 ["thing"] [] (spF K 1 F__is_name) := by
  letI : Fd.Uw := ⟨P, w⟩
  refine has_mk F hm sc__is_name (spF_len rfl) (fun _ _ _ _ _ _ us hl => match us, hl with | [_], _ => rfl) fun cdv A outer s H vs Q E hr h => ?_
  refine ⟨_, (pss_cons (ps_if (PW.pt (pw_or (pt_not (ptk_truU (K := K) rfl (pe_callB (ck_isi (K := K) rfl) (by rfl) bl.isinstance bb_isinstance (pa_cons (pv 0) (pa_cons (pe_bltn (v := .ty "str") (by rfl) bl.str bb_str rfl) pa_nil))))) (pw_or1 (pt_not (pt_chain op_leU op_leU pe_int (pe_callB (ck_lenU (K := K) rfl) (by rfl) bl.len bb_len (pa_cons (pv 0) pa_nil)) (pe_glob (v := .int 8) (by rfl) g_LONGEST_NAME r_LONGEST_NAME)))))) (pss_one (ps_ret pe_bl)) pss_nil) (pss_one (ps_ret (pe_callB (ck_all (K := K) rfl rfl) (by rfl) bl.all bb_all (pa_cons (pe_lc (own := [("sign", 1)]) (by rfl) sc__is_name.nd (pi_str (pv 0)) (blkOk_by (own := [("sign", 1)]) (N := n__is_name) (sc := defScope s__is_name) (by decide +kernel)) (fun _ _ _ _ _ => (pg_name (i := 1) sc__is_name.nd rfl (Or.inl rfl) (Or.inr rfl))) (fun _ _ _ _ _ => pts_nil) (fun _ _ _ _ _ => (pe_chain op_leU op_leU pe_str (pv 1) pe_str))) pa_nil))))), body_F (n := 1) ?_ rfl h⟩
  exact (ss_seq (ss_if (st_or (st_not (st_truU (se_isi se_var))) (st_not (st_test (se_lele se_int (se_len (sa_cons se_var sa_nil)) se_int)))) (ss_ret se_bl) ss_next) (ss_ret (se_all (sa_cons (se_fz (sl_lc (si_chars se_var) sg_name st_yes (se_lele se_str se_var se_str) (by decide))) sa_nil))))
abbrev s__rank : Stmt := topS 22
abbrev n__rank : List Str := ["items", "name", "rank", "item"]
theorem sc__rank : FnScope n__rank ["items", "name"] (defScope s__rank) := ⟨rfl, rfl, rfl, by decide +kernel, rfl, by decide +kernel, by decide +kernel⟩
theorem H__rank (bl : Bm mg) (nx : NoY CX) (F : FunD K "_rank" "_rank" (defArgs s__rank) (defBody s__rank) (defScope s__rank) [] [] f fd) (hm : mg "_rank" = some (.ref f)) :
    Has P w K mg base CX "_rank" 1 ["items", "name"] [] (spF K 2 F__rank) := by
  letI : Fd.Uw := ⟨P, w⟩
  refine has_mk F hm sc__rank (spF_len rfl) (fun _ _ _ _ _ _ us hl => match us, hl with | [_, _], _ => rfl) fun cdv A outer s H vs Q E hr h => ?_
  refine ⟨_, (pss_cons (ps_for PassesOwn.never rfl (pi_enumR (by rfl) bl.enumerate (pa_cons (pv 0) pa_nil)) (pgk_row (K := K) (n := 2) rfl rfl (pgs_cons (pg_name (i := 2) sc__rank.nd rfl (by first | exact .inl rfl | exact .inr rfl)) (pgs_cons (pg_name (i := 3) sc__rank.nd rfl (by first | exact .inl rfl | exact .inr rfl)) pgs_nil))) (pss_one (ps_if (pt_cmpR (ok_eqD (K := K) rfl hr.units) (pe_ix (ixk_seq (K := K) rfl) (pv 3) pe_int (fun _ _ => rfl)) (pv 1) (nomark _)) (pss_one (ps_ret (pv 2))) pss_nil))) (pss_one (ps_ret pe_non))), body_F (n := 2) ?_ rfl h⟩
  exact (ss_seq (ss_for (si_enumR (sa_cons se_var sa_nil)) (sg_row (sgs_cons sg_name (sgs_cons sg_name sgs_nil))) (ss_if (st_test (se_eq (se_ix se_var se_int) se_var)) (ss_ret se_var) ss_next)) (ss_ret se_non))
abbrev s__as_tuples : Stmt := topS 23
abbrev n__as_tuples : List Str := ["items", "score", "name", "height"]
theorem sc__as_tuples : FnScope n__as_tuples ["items"] (defScope s__as_tuples) := ⟨rfl, rfl, rfl, by decide +kernel, rfl, by decide +kernel, by decide +kernel⟩
theorem H__as_tuples (bl : Bm mg) (nx : NoY CX) (F : FunD K "_as_tuples" "_as_tuples" (defArgs s__as_tuples) (defBody s__as_tuples) (defScope s__as_tuples) [] [] f fd) (hm : mg "_as_tuples" = some (.ref f)) :
    Has P w K mg base CX "_as_tuples" 1 ["items"] [] (spF K 1 F__as_tuples) := by
  letI : Fd.Uw := ⟨P, w⟩
  refine has_mk F hm sc__as_tuples (spF_len rfl) (fun _ _ _ _ _ _ us hl => match us, hl with | [_], _ => rfl) fun cdv A outer s H vs Q E hr h => ?_
  refine ⟨_, (pss_one (ps_ret (pe_callTy (ck_tupU (K := K) rfl) (by rfl) bl.tuple bb_tuple (pa_cons (pe_lc (own := [("score", 1), ("name", 2), ("height", 3)]) (by rfl) sc__as_tuples.nd (pik_row (K := K) rfl (pv 0)) (blkOk_by (own := [("score", 1), ("name", 2), ("height", 3)]) (N := n__as_tuples) (sc := defScope s__as_tuples) (by decide +kernel)) (fun _ _ _ _ _ => (pgk_row (K := K) (n := 3) rfl rfl (pgs_cons (pg_name (i := 1) sc__as_tuples.nd rfl (Or.inl rfl) (Or.inr rfl)) (pgs_cons (pg_name (i := 2) sc__as_tuples.nd rfl (Or.inl rfl) (Or.inr rfl)) (pgs_cons (pg_name (i := 3) sc__as_tuples.nd rfl (Or.inl rfl) (Or.inr rfl)) pgs_nil rfl) rfl) rfl) rfl rfl)) (fun _ _ _ _ _ => pts_nil) (fun _ _ _ _ _ => (pe_tupZ (pa_cons (pv 1) (pa_cons (pv 2) (pa_cons (pv 3) pa_nil)))))) pa_nil)))), body_F (n := 3) ?_ rfl h⟩
  exact (ss_ret (se_tupC (sa_cons (se_fz (sl_lc (si_row se_var) (sg_row (sgs_cons sg_name (sgs_cons sg_name (sgs_cons sg_name sgs_nil)))) st_yes (se_tup (sa_cons se_var (sa_cons se_var (sa_cons se_var sa_nil)))) (by decide))) sa_nil)))
abbrev s__law_cell_at : Stmt := topS 25
abbrev n__law_cell_at : List Str := ["_law_script", "_law_k"]
theorem sc__law_cell_at : FnScope n__law_cell_at ["_law_script", "_law_k"] (defScope s__law_cell_at) := ⟨rfl, rfl, rfl, by decide +kernel, rfl, by decide +kernel, by decide +kernel⟩
theorem H__law_cell_at (bl : Bm mg) (nx : NoY CX) (F : FunD K "_law_cell_at" "_law_cell_at" (defArgs s__law_cell_at) (defBody s__law_cell_at) (defScope s__law_cell_at) [] [] f fd) (hm : mg "_law_cell_at" = some (.ref f)) :
    Has P w K mg base CX "_law_cell_at" 1 ["_law_script", "_law_k"] [] (spF K 2 F__law_cell_at) := by
  letI : Fd.Uw := ⟨P, w⟩
  refine has_mk F hm sc__law_cell_at (spF_len rfl) (fun _ _ _ _ _ _ us hl => match us, hl with | [_, _], _ => rfl) fun cdv A outer s H vs Q E hr h => ?_
  refine ⟨_, (pss_one (ps_ret (pe_ifExp (pt_cmpR op_ltU (pv 1) (pe_callB (ck_lenU (K := K) rfl) (by rfl) bl.len bb_len (pa_cons (pv 0) pa_nil)) (nomark _)) (pe_ix (ixk_seq (K := K) rfl) (pv 0) (pv 1) (fun _ _ => rfl)) pe_int))), body_F (n := 0) ?_ rfl h⟩
  exact (ss_ret (se_if (st_test (se_lt se_var (se_len (sa_cons se_var sa_nil)))) (se_ix se_var se_var) se_int))
abbrev s__law_well : Stmt := topS 26
abbrev n__law_well : List Str := ["_law_cell"]
theorem sc__law_well : FnScope n__law_well ["_law_cell"] (defScope s__law_well) := ⟨rfl, rfl, rfl, by decide +kernel, rfl, by decide +kernel, by decide +kernel⟩
theorem H__law_well (bl : Bm mg) (nx : NoY CX) (F : FunD K "_law_well" "_law_well" (defArgs s__law_well) (defBody s__law_well) (defScope s__law_well) [] [] f fd) (hm : mg "_law_well" = some (.ref f)) :
    Has P w K mg base CX "_law_well" 1 ["_law_cell"] [] (spL K 1 F__law_well) := by
  letI : Fd.Uw := ⟨P, w⟩
  refine has_mk F hm sc__law_well (spL_len rfl) (fun _ _ _ _ _ _ us hl => match us, hl with | [_], _ => rfl) fun cdv A outer s H vs Q E hr h => ?_
  refine ⟨_, (pss_one (ps_ret (pe_lst (pa_cons (pe_op (ok_mulU (K := K) rfl) (pv 0) (pe_callTy call_intU (by rfl) bl.int bb_int (pa_cons (pe_cmpR op_geU (pv 0) (pe_op op_pow pe_int pe_int) (nomark _)) pa_nil))) (pa_cons (pe_op op_mod (pe_callTy call_intU (by rfl) bl.int bb_int (pa_cons (pv 0) pa_nil)) pe_int) (pa_cons pe_int pa_nil)))))), body_L (n := 0) ?_ rfl h⟩
  exact (ss_retL (sl_lst (sa_cons (se_mul se_var (se_intC (sa_cons (se_ge se_var (se_pow se_int se_int)) sa_nil))) (sa_cons (se_mod (se_intC (sa_cons se_var sa_nil)) se_int) (sa_cons se_int sa_nil)))))
abbrev s__law_draw : Stmt := topS 27
abbrev n__law_draw : List Str := ["_law_well_here", "_law_bound", "_law_digit", "_law_stirred"]
theorem sc__law_draw : FnScope n__law_draw ["_law_well_here", "_law_bound"] (defScope s__law_draw) := ⟨rfl, rfl, rfl, by decide +kernel, rfl, by decide +kernel, by decide +kernel⟩
theorem H__law_draw (bl : Bm mg) (nx : NoY CX) (F : FunD K "_law_draw" "_law_draw" (defArgs s__law_draw) (defBody s__law_draw) (defScope s__law_draw) [] [] f fd) (hm : mg "_law_draw" = some (.ref f)) :
    Has P w K mg base CX "_law_draw" 1 ["_law_well_here", "_law_bound"] [] (spM K 2 F__law_draw) := by
  letI : Fd.Uw := ⟨P, w⟩
  refine has_mk F hm sc__law_draw (spM_len rfl) (fun _ _ _ _ _ _ us hl => match us, hl with | [_, _], _ => rfl) fun cdv A outer s H vs Q E hr h => ?_
  refine ⟨_, (pss_cons (ps_if (pt_cmpR op_gtU (pe_ix (ixk_seq (K := K) rfl) (pv 0) pe_int (fun _ _ => rfl)) pe_int (nomark _)) (pss_cons (ps_set (i := 2) sc__law_draw.nd rfl (by first | exact .inl rfl | exact .inr rfl) (pe_op op_mod (pe_callTy call_intU (by rfl) bl.int bb_int (pa_cons (pe_ix (ixk_seq (K := K) rfl) (pv 0) pe_int (fun _ _ => rfl)) pa_nil)) (pv 1))) (pss_cons (ps_asg (pe_op op_fdivW (pe_ix (ixk_seq (K := K) rfl) (pv 0) pe_int (fun _ _ => rfl)) (pv 1)) (pg_sub (pv 0) pe_int set_list)) (pss_one (ps_ret (pv 2))))) pss_nil) (pss_cons (ps_asg (pe_op (ok_addU (K := K) rfl) (pe_ix (ixk_seq (K := K) rfl) (pv 0) pe_int (fun _ _ => rfl)) pe_int) (pg_sub (pv 0) pe_int set_list)) (pss_cons (ps_set (i := 3) sc__law_draw.nd rfl (by first | exact .inl rfl | exact .inr rfl) (pe_op op_mod (pe_callTy call_intU (by rfl) bl.int bb_int (pa_cons (pe_op (ok_mulU (K := K) rfl) (pe_op (ok_addU (K := K) rfl) (pe_op (ok_addU (K := K) rfl) (pe_ix (ixk_seq (K := K) rfl) (pv 0) pe_int (fun _ _ => rfl)) (pe_op (ok_mulU (K := K) rfl) pe_int (pe_ix (ixk_seq (K := K) rfl) (pv 0) pe_int (fun _ _ => rfl)))) pe_int) pe_int) pa_nil)) pe_int)) (pss_cons (ps_set (i := 3) sc__law_draw.nd rfl (by first | exact .inl rfl | exact .inr rfl) (pe_op op_mod (pe_callTy call_intU (by rfl) bl.int bb_int (pa_cons (pe_op (ok_mulU (K := K) rfl) (pv 3) (pe_op (ok_addU (K := K) rfl) (pe_op (ok_addU (K := K) rfl) (pe_op op_fdivW (pv 3) pe_int) pe_int) (pe_ix (ixk_seq (K := K) rfl) (pv 0) pe_int (fun _ _ => rfl)))) pa_nil)) pe_int)) (pss_one (ps_ret (pe_op op_mod (pe_callTy call_intU (by rfl) bl.int bb_int (pa_cons (pe_op op_fdivW (pe_op op_mod (pe_callTy call_intU (by rfl) bl.int bb_int (pa_cons (pe_op (ok_mulU (K := K) rfl) (pv 3) (pe_op (ok_addU (K := K) rfl) (pe_op op_fdivW (pv 3) pe_int) pe_int)) pa_nil)) pe_int) pe_int) pa_nil)) (pv 1)))))))), body_M (n := 2) ?_ rfl h⟩
  exact (ss_seq (ss_if (st_test (se_gt (se_ixV se_int) se_int)) (ss_seq (ss_asg (se_mod (se_intC (sa_cons (se_ixV se_int) sa_nil)) se_var) sg_name) (ss_seq (ss_setIx (se_div (se_ixV se_int) se_var) se_int) (ss_ret se_var))) ss_next) (ss_seq (ss_setIx (se_add (se_ixV se_int) se_int) se_int) (ss_seq (ss_asg (se_mod (se_intC (sa_cons (se_mul (se_add (se_add (se_ixV se_int) (se_mul se_int (se_ixV se_int))) se_int) se_int) sa_nil)) se_int) sg_name) (ss_seq (ss_asg (se_mod (se_intC (sa_cons (se_mul se_var (se_add (se_add (se_div se_var se_int) se_int) (se_ixV se_int))) sa_nil)) se_int) sg_name) (ss_ret (se_mod (se_intC (sa_cons (se_div (se_mod (se_intC (sa_cons (se_mul se_var (se_add (se_div se_var se_int) se_int)) sa_nil)) se_int) se_int) sa_nil)) se_var))))))
abbrev s__law_due : Stmt := topS 31
abbrev n__law_due : List Str := ["_law_found", "_law_name_here"]
theorem sc__law_due : FnScope n__law_due ["_law_found"] (defScope s__law_due) := ⟨rfl, rfl, rfl, by decide +kernel, rfl, by decide +kernel, by decide +kernel⟩
theorem H__law_due (bl : Bm mg) (nx : NoY CX) (F : FunD K "_law_due" "_law_due" (defArgs s__law_due) (defBody s__law_due) (defScope s__law_due) [] [] f fd) (hm : mg "_law_due" = some (.ref f)) :
    Has P w K mg base CX "_law_due" 1 ["_law_found"] [] (spF K 1 F__law_due) := by
  letI : Fd.Uw := ⟨P, w⟩
  refine has_mk F hm sc__law_due (spF_len rfl) (fun _ _ _ _ _ _ us hl => match us, hl with | [_], _ => rfl) fun cdv A outer s H vs Q E hr h => ?_
  refine ⟨_, (pss_one (ps_ret (pe_callTy (ck_tupU (K := K) rfl) (by rfl) bl.tuple bb_tuple (pa_cons (pe_callB (ck_sortedV (K := K) rfl) (by rfl) bl.sorted bb_sorted (pa_cons (pe_lockQ (pe_lc (own := [("_law_name_here", 1)]) (by rfl) sc__law_due.nd (pi_keysR (pv 0)) (blkOk_by (own := [("_law_name_here", 1)]) (N := n__law_due) (sc := defScope s__law_due) (by decide +kernel)) (fun _ _ _ _ _ => (pg_name (i := 1) sc__law_due.nd rfl (Or.inl rfl) (Or.inr rfl))) (fun _ _ _ _ _ => pts_nil) (fun _ _ _ _ _ => (pe_tupZ (pa_cons (pe_ix (ixk_seq (K := K) rfl) (pe_ix (ixk_all (K := K) rfl hr.units) (pv 0) (pv 1) (fun _ _ => rfl)) pe_int (fun _ _ => rfl)) (pa_cons (pv 1) (pa_cons (pe_ix (ixk_seq (K := K) rfl) (pe_ix (ixk_all (K := K) rfl hr.units) (pv 0) (pv 1) (fun _ _ => rfl)) pe_int (fun _ _ => rfl)) pa_nil))))))) pa_nil)) pa_nil)))), body_F (n := 1) ?_ rfl h⟩
  exact (ss_ret (se_tupC (sa_cons (se_fz (sl_sortedV (sa_cons (se_fz (sl_lcR sg_name st_yes (se_tup (sa_cons (se_ix (se_ixQ se_var se_var) se_int) (sa_cons se_var (sa_cons (se_ix (se_ixQ se_var se_var) se_int) sa_nil)))) (by decide))) sa_nil))) sa_nil)))
abbrev s_check_number : Stmt := topS 9
abbrev n_check_number : List Str := ["value", "least", "greatest"]
theorem sc_check_number : FnScope n_check_number ["value", "least", "greatest"] (defScope s_check_number) := ⟨rfl, rfl, rfl, by decide +kernel, rfl, by decide +kernel, by decide +kernel⟩
theorem B_check_number (bl : Bm mg) (nx : NoY CX) (G_is_whole : Has P w K mg base CX "is_whole" 1 ["thing"] [] (spF K 1 F_is_whole)) :
    ∀ (cdv : Value) (A : Around) (outer : List Env) (s : Shared) (H : Hp) (vs : List V) (Q : VK) (E : XK), Room 1 (A.deeper (envOfC "check_number" (defScope s_check_number) s.heap.objs.size f cdv)) → spF K 3 F_check_number vs H Q E → ∃ t, PSs (cxOf CX P w K mg base n_check_number "check_number" (defScope s_check_number) f cdv A outer s H E).nox (defBody s_check_number) t ∧ t { nx := fun _ H' => Q .non H', rt := Q } (L2.start n_check_number vs) H := by
  letI : Fd.Uw := ⟨P, w⟩
  intro cdv A outer s H vs Q E hr h
  refine ⟨_, (pss_cons (ps_if (PW.pt (pw_or (pt_not (ptk_truU (K := K) rfl (pe_has G_is_whole (hr.mono (by first | decide | omega)) (by rfl) (pa_cons (pv 0) pa_nil) (nx _)))) (pw_or1 (pt_cmpR op_ltU (pv 0) (pv 1) (nomark _))))) (pss_one ps_never) pss_nil) (pss_one (ps_if (PW.pt (pw_and (pt_cmpR op_notN (pv 2) pe_non (nomark _)) (pw_and1 (pt_cmpR op_gtU (pv 0) (pv 2) (nomark _))))) (pss_one ps_never) pss_nil))), body_F (n := 0) ?_ rfl h⟩
  exact (ss_seq (ss_if (st_or (st_not (st_truU (se_call (fun _ => .nil) (sa_cons se_var sa_nil)))) (st_test (se_lt se_var se_var))) ss_never ss_next) (ss_if (st_and (st_test (se_notN se_var se_non)) (st_test (se_gt se_var se_var))) ss_never ss_next))
theorem H_check_number (bl : Bm mg) (nx : NoY CX) (G_is_whole : Has P w K mg base CX "is_whole" 1 ["thing"] [] (spF K 1 F_is_whole)) (F : FunD K "check_number" "check_number" (defArgs s_check_number) (defBody s_check_number) (defScope s_check_number) [.non] [] f fd) (hm : mg "check_number" = some (.ref f)) :
    Has P w K mg base CX "check_number" 2 ["value", "least", "greatest"] [.non] (spF K 3 F_check_number) := by
  letI : Fd.Uw := ⟨P, w⟩
  exact has_mkD (n := 2) F hm sc_check_number (spF_len rfl) (by simp) rfl (fun _ _ _ _ _ _ _ us its hl hi => match us, its, hl, hi with | [_, _], [_], _, _ => ⟨_, rfl, rfl⟩) (B_check_number (f := f) bl nx G_is_whole)
theorem H_check_number_full (bl : Bm mg) (nx : NoY CX) (G_is_whole : Has P w K mg base CX "is_whole" 1 ["thing"] [] (spF K 1 F_is_whole)) (F : FunD K "check_number" "check_number" (defArgs s_check_number) (defBody s_check_number) (defScope s_check_number) [.non] [] f fd) (hm : mg "check_number" = some (.ref f)) :
    Has P w K mg base CX "check_number" 2 ["value", "least", "greatest"] [] (spF K 3 F_check_number) := by
  letI : Fd.Uw := ⟨P, w⟩
  obtain ⟨ds, hv, hb⟩ := F.binds1 (ps := ["value", "least", "greatest"]) 3 1 (by simp) rfl (fun _ _ _ _ _ _ _ us its hl hi => match us, its, hl, hi with | [_, _, _], [_], _, _ => ⟨_, rfl, rfl⟩)
  refine ⟨f, fd, ds, F.ok sc_check_number (spF_len rfl) fun cdv A outer s H vs Q E hr hs => ?_, hm, F.kp, hv, hb⟩
  obtain ⟨t, h1, h2⟩ := B_check_number (f := f) bl nx G_is_whole cdv A outer s H vs Q E hr hs
  exact ⟨t, h1.nox, h2⟩
abbrev s_check_key : Stmt := topS 10
abbrev n_check_key : List Str := ["key"]
theorem sc_check_key : FnScope n_check_key ["key"] (defScope s_check_key) := ⟨rfl, rfl, rfl, by decide +kernel, rfl, by decide +kernel, by decide +kernel⟩
theorem H_check_key (bl : Bm mg) (nx : NoY CX) (G_is_whole : Has P w K mg base CX "is_whole" 1 ["thing"] [] (spF K 1 F_is_whole)) (F : FunD K "check_key" "check_key" (defArgs s_check_key) (defBody s_check_key) (defScope s_check_key) [] [] f fd) (hm : mg "check_key" = some (.ref f)) :
    Has P w K mg base CX "check_key" 2 ["key"] [] (spF K 1 F_check_key) := by
  letI : Fd.Uw := ⟨P, w⟩
  refine has_mk F hm sc_check_key (spF_len rfl) (fun _ _ _ _ _ _ us hl => match us, hl with | [_], _ => rfl) fun cdv A outer s H vs Q E hr h => ?_
  refine ⟨_, (pss_one (ps_if (pt_not (ptk_truU (K := K) rfl (pe_has G_is_whole (hr.mono (by first | decide | omega)) (by rfl) (pa_cons (pv 0) pa_nil) (nx _)))) (pss_one ps_never) pss_nil)), body_F (n := 0) ?_ rfl h⟩
  exact (ss_if (st_not (st_truU (se_call (fun _ => .nil) (sa_cons se_var sa_nil)))) ss_never ss_next)
abbrev s__is_item : Stmt := topS 18
abbrev n__is_item : List Str := ["thing", "score", "name", "height"]
theorem sc__is_item : FnScope n__is_item ["thing"] (defScope s__is_item) := ⟨rfl, rfl, rfl, by decide +kernel, rfl, by decide +kernel, by decide +kernel⟩
theorem H__is_item (bl : Bm mg) (nx : NoY CX) (G_is_row : Has P w K mg base CX "is_row" 1 ["thing"] [] (spF K 1 F_is_row)) (G_is_whole : Has P w K mg base CX "is_whole" 1 ["thing"] [] (spF K 1 F_is_whole)) (G__is_name : Has P w K mg base CX "_is_name" 1 ["thing"] [] (spF K 1 F__is_name)) (F : FunD K "_is_item" "_is_item" (defArgs s__is_item) (defBody s__is_item) (defScope s__is_item) [] [] f fd) (hm : mg "_is_item" = some (.ref f)) :
    Has P w K mg base CX "_is_item" 2 ["thing"] [] (spF K 1 F__is_item) := by
  letI : Fd.Uw := ⟨P, w⟩
  refine has_mk F hm sc__is_item (spF_len rfl) (fun _ _ _ _ _ _ us hl => match us, hl with | [_], _ => rfl) fun cdv A outer s H vs Q E hr h => ?_
  refine ⟨_, (pss_cons (ps_if (PW.pt (pw_or (pt_not (ptk_truU (K := K) rfl (pe_has G_is_row (hr.mono (by first | decide | omega)) (by rfl) (pa_cons (pv 0) pa_nil) (nx _)))) (pw_or1 (pt_cmpR (ok_neD (K := K) rfl hr.units) (pe_callB (ck_lenU (K := K) rfl) (by rfl) bl.len bb_len (pa_cons (pv 0) pa_nil)) pe_int (nomark _))))) (pss_one (ps_ret pe_bl)) pss_nil) (pss_cons (ps_asg (pv 0) (pgk_row (K := K) (n := 3) rfl rfl (pgs_cons (pg_name (i := 1) sc__is_item.nd rfl (by first | exact .inl rfl | exact .inr rfl)) (pgs_cons (pg_name (i := 2) sc__is_item.nd rfl (by first | exact .inl rfl | exact .inr rfl)) (pgs_cons (pg_name (i := 3) sc__is_item.nd rfl (by first | exact .inl rfl | exact .inr rfl)) pgs_nil))))) (pss_one (ps_ret (pe_and (pe_has G_is_whole (hr.mono (by first | decide | omega)) (by rfl) (pa_cons (pv 1) pa_nil) (nx _)) (pe_and (pe_has G__is_name (hr.mono (by first | decide | omega)) (by rfl) (pa_cons (pv 2) pa_nil) (nx _)) (pe_and (pe_has G_is_whole (hr.mono (by first | decide | omega)) (by rfl) (pa_cons (pv 3) pa_nil) (nx _)) (pe_one (pe_cmpR op_geU (pv 3) pe_int (nomark _)))))))))), body_F (n := 3) ?_ rfl h⟩
  exact (ss_seq (ss_if (st_or (st_not (st_truU (se_call (fun _ => .nil) (sa_cons se_var sa_nil)))) (st_test (se_ne (se_len (sa_cons se_var sa_nil)) se_int))) (ss_ret se_bl) ss_next) (ss_seq (ss_asg se_var (sg_row (sgs_cons sg_name (sgs_cons sg_name (sgs_cons sg_name sgs_nil))))) (ss_ret (se_and (se_call (fun _ => .nil) (sa_cons se_var sa_nil)) (se_and (se_call (fun _ => .nil) (sa_cons se_var sa_nil)) (se_and (se_call (fun _ => .nil) (sa_cons se_var sa_nil)) (se_ge se_var se_int)))))))
abbrev s__check_name : Stmt := topS 21
abbrev n__check_name : List Str := ["name"]
theorem sc__check_name : FnScope n__check_name ["name"] (defScope s__check_name) := ⟨rfl, rfl, rfl, by decide +kernel, rfl, by decide +kernel, by decide +kernel⟩
theorem H__check_name (bl : Bm mg) (nx : NoY CX) (G__is_name : Has P w K mg base CX "_is_name" 1 ["thing"] [] (spF K 1 F__is_name)) (F : FunD K "_check_name" "_check_name" (defArgs s__check_name) (defBody s__check_name) (defScope s__check_name) [] [] f fd) (hm : mg "_check_name" = some (.ref f)) :
    Has P w K mg base CX "_check_name" 2 ["name"] [] (spF K 1 F__check_name) := by
  letI : Fd.Uw := ⟨P, w⟩
  refine has_mk F hm sc__check_name (spF_len rfl) (fun _ _ _ _ _ _ us hl => match us, hl with | [_], _ => rfl) fun cdv A outer s H vs Q E hr h => ?_
  refine ⟨_, (pss_one (ps_if (pt_not (ptk_truU (K := K) rfl (pe_has G__is_name (hr.mono (by first | decide | omega)) (by rfl) (pa_cons (pv 0) pa_nil) (nx _)))) (pss_one ps_never) pss_nil)), body_F (n := 0) ?_ rfl h⟩
  exact (ss_if (st_not (st_truU (se_call (fun _ => .nil) (sa_cons se_var sa_nil)))) ss_never ss_next)
abbrev s__law_one : Stmt := topS 28
abbrev n__law_one : List Str := ["_law_well_here", "_law_some"]
theorem sc__law_one : FnScope n__law_one ["_law_well_here", "_law_some"] (defScope s__law_one) := ⟨rfl, rfl, rfl, by decide +kernel, rfl, by decide +kernel, by decide +kernel⟩
theorem H__law_one (bl : Bm mg) (nx : NoY CX) (G__law_draw : Has P w K mg base CX "_law_draw" 1 ["_law_well_here", "_law_bound"] [] (spM K 2 F__law_draw)) (F : FunD K "_law_one" "_law_one" (defArgs s__law_one) (defBody s__law_one) (defScope s__law_one) [] [] f fd) (hm : mg "_law_one" = some (.ref f)) :
    Has P w K mg base CX "_law_one" 2 ["_law_well_here", "_law_some"] [] (spM K 2 F__law_one) := by
  letI : Fd.Uw := ⟨P, w⟩
  refine has_mk F hm sc__law_one (spM_len rfl) (fun _ _ _ _ _ _ us hl => match us, hl with | [_, _], _ => rfl) fun cdv A outer s H vs Q E hr h => ?_
  refine ⟨_, (pss_one (ps_ret (pe_ix (ixk_seq (K := K) rfl) (pv 1) (pe_has G__law_draw (hr.mono (by first | decide | omega)) (by rfl) (pa_cons (pv 0) (pa_cons (pe_callB (ck_lenU (K := K) rfl) (by rfl) bl.len bb_len (pa_cons (pv 1) pa_nil)) pa_nil)) (nx _)) (fun _ _ => rfl)))), body_M (n := 0) ?_ rfl h⟩
  exact (ss_ret (se_ix se_var (se_callM (sa_cons (se_len (sa_cons se_var sa_nil)) sa_nil))))
abbrev s__wrong_item : Stmt := topS 19
abbrev n__wrong_item : List Str := ["thing", "names", "index", "item"]
theorem sc__wrong_item : FnScope n__wrong_item ["thing"] (defScope s__wrong_item) := ⟨rfl, rfl, rfl, by decide +kernel, rfl, by decide +kernel, by decide +kernel⟩
theorem H__wrong_item (bl : Bm mg) (nx : NoY CX) (G_is_row : Has P w K mg base CX "is_row" 1 ["thing"] [] (spF K 1 F_is_row)) (G__is_item : Has P w K mg base CX "_is_item" 2 ["thing"] [] (spF K 1 F__is_item)) (F : FunD K "_wrong_item" "_wrong_item" (defArgs s__wrong_item) (defBody s__wrong_item) (defScope s__wrong_item) [] [] f fd) (hm : mg "_wrong_item" = some (.ref f)) :
    Has P w K mg base CX "_wrong_item" 3 ["thing"] [] (spF K 1 F__wrong_item) := by
  letI : Fd.Uw := ⟨P, w⟩
  refine has_mk F hm sc__wrong_item (spF_len rfl) (fun _ _ _ _ _ _ us hl => match us, hl with | [_], _ => rfl) fun cdv A outer s H vs Q E hr h => ?_
  refine ⟨_, (pss_cons (ps_if (pt_not (ptk_truU (K := K) rfl (pe_has G_is_row (hr.mono (by first | decide | omega)) (by rfl) (pa_cons (pv 0) pa_nil) (nx _)))) (pss_one (ps_ret (pe_un un_neg pe_int))) pss_nil) (pss_cons (ps_set (i := 1) sc__wrong_item.nd rfl (by first | exact .inl rfl | exact .inr rfl) (pe_callTy0 (ck_set0 (P := P) (w := w) rfl rfl) (by rfl) bl.set bb_set)) (pss_cons (ps_for PassesOwn.never rfl (pi_enumR (by rfl) bl.enumerate (pa_cons (pv 0) pa_nil)) (pgk_row (K := K) (n := 2) rfl rfl (pgs_cons (pg_name (i := 2) sc__wrong_item.nd rfl (by first | exact .inl rfl | exact .inr rfl)) (pgs_cons (pg_name (i := 3) sc__wrong_item.nd rfl (by first | exact .inl rfl | exact .inr rfl)) pgs_nil))) (pss_cons (ps_if (PW.pt (pw_or (pt_not (ptk_truU (K := K) rfl (pe_has G__is_item (hr.mono (by first | decide | omega)) (by rfl) (pa_cons (pv 3) pa_nil) (nx _)))) (pw_or1 (pt_cmpR (ok_sin (P := P) (w := w) rfl rfl) (pe_ix (ixk_seq (K := K) rfl) (pv 3) pe_int (fun _ _ => rfl)) (pv 1) (by rfl))))) (pss_one (ps_ret (pv 2))) pss_nil) (pss_cons (ps_if (PW.pt (pw_and (pt_cmpR op_gtU (pv 2) pe_int (nomark _)) (pw_and1 (pt_cmpR (ok_ltV (K := K) rfl hr.units) (pe_callTy (ck_tupU (K := K) rfl) (by rfl) bl.tuple bb_tuple (pa_cons (pe_slice (slk_sliceU (K := K) rfl) (pv 3) po_none (po_some pe_int)) pa_nil)) (pe_callTy (ck_tupU (K := K) rfl) (by rfl) bl.tuple bb_tuple (pa_cons (pe_slice (slk_sliceU (K := K) rfl) (pe_ix (ixk_seq (K := K) rfl) (pv 0) (pe_op op_sub (pv 2) pe_int) (fun _ _ => rfl)) po_none (po_some pe_int)) pa_nil)) (nomark _))))) (pss_one (ps_ret (pv 2))) pss_nil) (pss_one (ps_expr (pe_saddK (pv 1) (pa_cons (pe_ix (ixk_seq (K := K) rfl) (pv 3) pe_int (fun _ _ => rfl)) pa_nil))))))) (pss_one (ps_ret pe_non))))), body_F (n := 3) ?_ rfl h⟩
  exact (ss_seq (ss_if (st_not (st_truU (se_call (fun _ => .nil) (sa_cons se_var sa_nil)))) (ss_ret (se_neg se_int)) ss_next) (ss_seq ss_asgU (ss_seq (ss_for (si_enumR (sa_cons se_var sa_nil)) (sg_row (sgs_cons sg_name (sgs_cons sg_name sgs_nil))) (ss_seq (ss_if (st_or (st_not (st_truU (se_call (fun _ => .nil) (sa_cons se_var sa_nil)))) (st_test (se_inS (se_ix se_var se_int)))) (ss_ret se_var) ss_next) (ss_seq (ss_if (st_and (st_test (se_gt se_var se_int)) (st_test (se_ltV (se_tupC (sa_cons (se_sl se_var so_none (so_some se_int)) sa_nil)) (se_tupC (sa_cons (se_sl (se_ix se_var (se_sub se_var se_int)) so_none (so_some se_int)) sa_nil))))) (ss_ret se_var) ss_next) (ss_addU (se_ix se_var se_int))))) (ss_ret se_non))))
abbrev s__law_name : Stmt := topS 29
abbrev n__law_name : List Str := ["_law_well_here"]
theorem sc__law_name : FnScope n__law_name ["_law_well_here"] (defScope s__law_name) := ⟨rfl, rfl, rfl, by decide +kernel, rfl, by decide +kernel, by decide +kernel⟩
theorem H__law_name (bl : Bm mg) (nx : NoY CX) (G__law_one : Has P w K mg base CX "_law_one" 2 ["_law_well_here", "_law_some"] [] (spM K 2 F__law_one)) (F : FunD K "_law_name" "_law_name" (defArgs s__law_name) (defBody s__law_name) (defScope s__law_name) [] [] f fd) (hm : mg "_law_name" = some (.ref f)) :
    Has P w K mg base CX "_law_name" 3 ["_law_well_here"] [] (spM K 1 F__law_name) := by
  letI : Fd.Uw := ⟨P, w⟩
  refine has_mk F hm sc__law_name (spM_len rfl) (fun _ _ _ _ _ _ us hl => match us, hl with | [_], _ => rfl) fun cdv A outer s H vs Q E hr h => ?_
  refine ⟨_, (pss_one (ps_ret (pe_has G__law_one (hr.mono (by first | decide | omega)) (by rfl) (pa_cons (pv 0) (pa_cons (pe_lst (pa_cons pe_str (pa_cons pe_str (pa_cons pe_str (pa_cons pe_str (pa_cons pe_str (pa_cons pe_str (pa_cons pe_str (pa_cons pe_str (pa_cons pe_str (pa_cons pe_str pa_nil))))))))))) pa_nil)) (nx _)))), body_M (n := 0) ?_ rfl h⟩
  exact (ss_ret (se_callM (sa_cons (se_fz (sl_lst (sa_cons se_str (sa_cons se_str (sa_cons se_str (sa_cons se_str (sa_cons se_str (sa_cons se_str (sa_cons se_str (sa_cons se_str (sa_cons se_str (sa_cons se_str sa_nil)))))))))))) sa_nil)))
abbrev s_is_scored : Stmt := topS 13
abbrev n_is_scored : List Str := ["thing"]
theorem sc_is_scored : FnScope n_is_scored ["thing"] (defScope s_is_scored) := ⟨rfl, rfl, rfl, by decide +kernel, rfl, by decide +kernel, by decide +kernel⟩
theorem H_is_scored (bl : Bm mg) (nx : NoY CX) (G__wrong_item : Has P w K mg base CX "_wrong_item" 3 ["thing"] [] (spF K 1 F__wrong_item)) (F : FunD K "is_scored" "is_scored" (defArgs s_is_scored) (defBody s_is_scored) (defScope s_is_scored) [] [] f fd) (hm : mg "is_scored" = some (.ref f)) :
    Has P w K mg base CX "is_scored" 4 ["thing"] [] (spF K 1 F_is_scored) := by
  letI : Fd.Uw := ⟨P, w⟩
  refine has_mk F hm sc_is_scored (spF_len rfl) (fun _ _ _ _ _ _ us hl => match us, hl with | [_], _ => rfl) fun cdv A outer s H vs Q E hr h => ?_
  refine ⟨_, (pss_one (ps_ret (pe_cmpR op_isN (pe_has G__wrong_item (hr.mono (by first | decide | omega)) (by rfl) (pa_cons (pv 0) pa_nil) (nx _)) pe_non (nomark _)))), body_F (n := 0) ?_ rfl h⟩
  exact (ss_ret (se_isN (se_call (fun _ => .nil) (sa_cons se_var sa_nil)) se_non))
abbrev s__check_items : Stmt := topS 20
abbrev n__check_items : List Str := ["items", "index"]
theorem sc__check_items : FnScope n__check_items ["items"] (defScope s__check_items) := ⟨rfl, rfl, rfl, by decide +kernel, rfl, by decide +kernel, by decide +kernel⟩
theorem H__check_items (bl : Bm mg) (nx : NoY CX) (G__wrong_item : Has P w K mg base CX "_wrong_item" 3 ["thing"] [] (spF K 1 F__wrong_item)) (F : FunD K "_check_items" "_check_items" (defArgs s__check_items) (defBody s__check_items) (defScope s__check_items) [] [] f fd) (hm : mg "_check_items" = some (.ref f)) :
    Has P w K mg base CX "_check_items" 4 ["items"] [] (spF K 1 F__check_items) := by
  letI : Fd.Uw := ⟨P, w⟩
  refine has_mk F hm sc__check_items (spF_len rfl) (fun _ _ _ _ _ _ us hl => match us, hl with | [_], _ => rfl) fun cdv A outer s H vs Q E hr h => ?_
  refine ⟨_, (pss_cons (ps_set (i := 1) sc__check_items.nd rfl (by first | exact .inl rfl | exact .inr rfl) (pe_has G__wrong_item (hr.mono (by first | decide | omega)) (by rfl) (pa_cons (pv 0) pa_nil) (nx _))) (pss_one (ps_if (pt_cmpR op_notN (pv 1) pe_non (nomark _)) (pss_one ps_never) pss_nil))), body_F (n := 1) ?_ rfl h⟩
  exact (ss_seq (ss_asg (se_call (fun _ => .nil) (sa_cons se_var sa_nil)) sg_name) (ss_if (st_test (se_notN se_var se_non)) ss_never ss_next))
abbrev s__law_items : Stmt := topS 30
abbrev n__law_items : List Str := ["_law_well_here", "_law_many_so", "_law_found", "_law_turn", "_law_name_here"]
theorem sc__law_items : FnScope n__law_items ["_law_well_here", "_law_many_so"] (defScope s__law_items) := ⟨rfl, rfl, rfl, by decide +kernel, rfl, by decide +kernel, by decide +kernel⟩
theorem H__law_items (bl : Bm mg) (nx : NoY CX) (G__law_draw : Has P w K mg base CX "_law_draw" 1 ["_law_well_here", "_law_bound"] [] (spM K 2 F__law_draw)) (G__law_one : Has P w K mg base CX "_law_one" 2 ["_law_well_here", "_law_some"] [] (spM K 2 F__law_one)) (G__law_name : Has P w K mg base CX "_law_name" 3 ["_law_well_here"] [] (spM K 1 F__law_name)) (F : FunD K "_law_items" "_law_items" (defArgs s__law_items) (defBody s__law_items) (defScope s__law_items) [] [] f fd) (hm : mg "_law_items" = some (.ref f)) :
    Has P w K mg base CX "_law_items" 4 ["_law_well_here", "_law_many_so"] [] (spML K 2 F__law_items) := by
  letI : Fd.Uw := ⟨P, w⟩
  refine has_mk F hm sc__law_items (spML_len rfl) (fun _ _ _ _ _ _ us hl => match us, hl with | [_, _], _ => rfl) fun cdv A outer s H vs Q E hr h => ?_
  refine ⟨_, (pss_cons (ps_set (i := 2) sc__law_items.nd rfl (by first | exact .inl rfl | exact .inr rfl) (pe_exE pe_dnewK)) (pss_cons (ps_for PassesOwn.never rfl (pi_range1 rfl bl.range (pa_cons (pe_has G__law_draw (hr.mono (by first | decide | omega)) (by rfl) (pa_cons (pv 0) (pa_cons (pe_op (ok_addU (K := K) rfl) (pv 1) pe_int) pa_nil)) (nx _)) pa_nil)) (pg_name (i := 3) sc__law_items.nd rfl (by first | exact .inl rfl | exact .inr rfl)) (pss_one (ps_asg (pe_tupZ (pa_cons (pe_has G__law_one (hr.mono (by first | decide | omega)) (by rfl) (pa_cons (pv 0) (pa_cons (pe_lst (pa_cons pe_int (pa_cons pe_int (pa_cons pe_int (pa_cons (pe_un un_neg pe_int) (pa_cons pe_int (pa_cons (pe_op op_pow pe_int pe_int) pa_nil))))))) pa_nil)) (nx _)) (pa_cons (pe_op (ok_addU (K := K) rfl) pe_int (pe_has G__law_draw (hr.mono (by first | decide | omega)) (by rfl) (pa_cons (pv 0) (pa_cons pe_int pa_nil)) (nx _))) pa_nil))) (pg_sub (pv 2) (pe_has G__law_name (hr.mono (by first | decide | omega)) (by rfl) (pa_cons (pv 0) pa_nil) (nx _)) (set_ownK (K := K) rfl hr.units))))) (pss_one (ps_ret (pe_callB (ck_sortedV (K := K) rfl) (by rfl) bl.sorted bb_sorted (pa_cons (pe_lc (own := [("_law_name_here", 4)]) (by rfl) sc__law_items.nd (pi_keysF (pv 2)) (blkOk_by (own := [("_law_name_here", 4)]) (N := n__law_items) (sc := defScope s__law_items) (by decide +kernel)) (fun _ _ _ _ _ => (pg_name (i := 4) sc__law_items.nd rfl (Or.inl rfl) (Or.inr rfl))) (fun _ _ _ _ _ => pts_nil) (fun _ _ _ _ _ => (pe_tupZ (pa_cons (pe_ix (ixk_seq (K := K) rfl) (pe_ix (ixk_all (K := K) rfl hr.units) (pv 2) (pv 4) (fun _ _ => rfl)) pe_int (fun _ _ => rfl)) (pa_cons (pv 4) (pa_cons (pe_ix (ixk_seq (K := K) rfl) (pe_ix (ixk_all (K := K) rfl hr.units) (pv 2) (pv 4) (fun _ _ => rfl)) pe_int (fun _ _ => rfl)) pa_nil)))))) pa_nil)))))), body_ML (n := 3) ?_ rfl h⟩
  exact (ss_seq (ss_asgQ sq_new) (ss_seq (ss_for (si_rg1 (sa_cons (se_callM (sa_cons (se_add se_var se_int) sa_nil)) sa_nil)) sg_name (ss_setQ (se_tup (sa_cons (se_callM (sa_cons (se_fz (sl_lst (sa_cons se_int (sa_cons se_int (sa_cons se_int (sa_cons (se_neg se_int) (sa_cons se_int (sa_cons (se_pow se_int se_int) sa_nil)))))))) sa_nil)) (sa_cons (se_add se_int (se_callM (sa_cons se_int sa_nil))) sa_nil))) (se_callM sa_nil))) (ss_retL (sl_sortedV (sa_cons (se_fz (sl_lc si_keysO sg_name st_yes (se_tup (sa_cons (se_ix (se_ixQ se_var se_var) se_int) (sa_cons se_var (sa_cons (se_ix (se_ixQ se_var se_var) se_int) sa_nil)))) (by decide))) sa_nil)))))
abbrev s_added : Stmt := topS 14
abbrev n_added : List Str := ["items", "name", "score", "height", "rows", "others", "row"]
theorem sc_added : FnScope n_added ["items", "name", "score", "height"] (defScope s_added) := ⟨rfl, rfl, rfl, by decide +kernel, rfl, by decide +kernel, by decide +kernel⟩
theorem H_added (bl : Bm mg) (nx : NoY CX) (G__check_items : Has P w K mg base CX "_check_items" 4 ["items"] [] (spF K 1 F__check_items)) (G__check_name : Has P w K mg base CX "_check_name" 2 ["name"] [] (spF K 1 F__check_name)) (G_check_key : Has P w K mg base CX "check_key" 2 ["key"] [] (spF K 1 F_check_key)) (G_check_number : Has P w K mg base CX "check_number" 2 ["value", "least", "greatest"] [.non] (spF K 3 F_check_number)) (G__as_tuples : Has P w K mg base CX "_as_tuples" 1 ["items"] [] (spF K 1 F__as_tuples)) (F : FunD K "added" "added" (defArgs s_added) (defBody s_added) (defScope s_added) [] [] f fd) (hm : mg "added" = some (.ref f)) :
    Has P w K mg base CX "added" 5 ["items", "name", "score", "height"] [] (spF K 4 F_added) := by
  letI : Fd.Uw := ⟨P, w⟩
  refine has_mk F hm sc_added (spF_len rfl) (fun _ _ _ _ _ _ us hl => match us, hl with | [_, _, _, _], _ => rfl) fun cdv A outer s H vs Q E hr h => ?_
  refine ⟨_, (pss_cons (ps_expr (pe_has G__check_items (hr.mono (by first | decide | omega)) (by rfl) (pa_cons (pv 0) pa_nil) (nx _))) (pss_cons (ps_expr (pe_has G__check_name (hr.mono (by first | decide | omega)) (by rfl) (pa_cons (pv 1) pa_nil) (nx _))) (pss_cons (ps_expr (pe_has G_check_key (hr.mono (by first | decide | omega)) (by rfl) (pa_cons (pv 2) pa_nil) (nx _))) (pss_cons (ps_expr (pe_has G_check_number (hr.mono (by first | decide | omega)) (by rfl) (pa_cons (pv 3) (pa_cons pe_int pa_nil)) (nx _))) (pss_cons (ps_set (i := 4) sc_added.nd rfl (by first | exact .inl rfl | exact .inr rfl) (pe_has G__as_tuples (hr.mono (by first | decide | omega)) (by rfl) (pa_cons (pv 0) pa_nil) (nx _))) (pss_cons (ps_if (pt_cmpR (ok_inU (K := K) rfl (room65 hr)) (pe_tupZ (pa_cons (pv 2) (pa_cons (pv 1) pa_nil))) (pe_lc (own := [("row", 6)]) (by rfl) sc_added.nd (pik_row (K := K) rfl (pv 4)) (blkOk_by (own := [("row", 6)]) (N := n_added) (sc := defScope s_added) (by decide +kernel)) (fun _ _ _ _ _ => (pg_name (i := 6) sc_added.nd rfl (Or.inl rfl) (Or.inr rfl))) (fun _ _ _ _ _ => pts_nil) (fun _ _ _ _ _ => (pe_slice (slk_sliceU (K := K) rfl) (pv 6) po_none (po_some pe_int)))) (by rfl)) (pss_one (ps_ret (pv 4))) pss_nil) (pss_cons (ps_setLc (i := 5) (own := [("row", 6)]) (by rfl) sc_added.nd rfl rfl (sw_true rfl rfl rfl (by decide +kernel)) (pik_row (K := K) rfl (pv 4)) (blkOk_by (own := [("row", 6)]) (N := n_added) (sc := defScope s_added) (by decide +kernel)) (fun _ _ _ _ _ => (pg_name (i := 6) sc_added.nd rfl (Or.inl rfl) (Or.inr rfl))) (fun _ _ _ _ _ => (pts_one (pt_cmpR (ok_neD (K := K) rfl hr.units) (pe_ix (ixk_seq (K := K) rfl) (pv 6) pe_int (fun _ _ => rfl)) (pv 1) (nomark _)))) (fun _ _ _ _ _ => (pv 6))) (pss_one (ps_ret (pe_callTy (ck_tupU (K := K) rfl) (by rfl) bl.tuple bb_tuple (pa_cons (pe_callB (ck_sortedV (K := K) rfl) (by rfl) bl.sorted bb_sorted (pa_cons (pe_op (ok_addU (K := K) rfl) (pv 5) (pe_lst (pa_cons (pe_tupZ (pa_cons (pv 2) (pa_cons (pv 1) (pa_cons (pv 3) pa_nil)))) pa_nil))) pa_nil)) pa_nil))))))))))), body_F (n := 3) ?_ rfl h⟩
  exact (ss_seq (ss_drop (se_call (fun _ => .nil) (sa_cons se_var sa_nil))) (ss_seq (ss_drop (se_call (fun _ => .nil) (sa_cons se_var sa_nil))) (ss_seq (ss_drop (se_call (fun _ => .nil) (sa_cons se_var sa_nil))) (ss_seq (ss_drop (se_call (fun _ => (.cons .non .nil)) (sa_cons se_var (sa_cons se_int sa_nil)))) (ss_seq (ss_asg (se_call (fun _ => .nil) (sa_cons se_var sa_nil)) sg_name) (ss_seq (ss_if (st_test (se_inX (se_tup (sa_cons se_var (sa_cons se_var sa_nil))) (se_fz (sl_lc (si_row se_var) sg_name st_yes (se_sl se_var so_none (so_some se_int)) (by decide))))) (ss_ret se_var) ss_next) (ss_seq (ss_asg (se_fz (sl_lc (si_row se_var) sg_name (st_test (se_ne (se_ix se_var se_int) se_var)) se_var (by decide))) sg_name) (ss_ret (se_tupC (sa_cons (se_fz (sl_sortedV (sa_cons (se_add se_var (se_fz (sl_lst (sa_cons (se_tup (sa_cons se_var (sa_cons se_var (sa_cons se_var sa_nil)))) sa_nil)))) sa_nil))) sa_nil))))))))))
abbrev s_dropped : Stmt := topS 15
abbrev n_dropped : List Str := ["items", "name", "row"]
theorem sc_dropped : FnScope n_dropped ["items", "name"] (defScope s_dropped) := ⟨rfl, rfl, rfl, by decide +kernel, rfl, by decide +kernel, by decide +kernel⟩
theorem H_dropped (bl : Bm mg) (nx : NoY CX) (G__check_items : Has P w K mg base CX "_check_items" 4 ["items"] [] (spF K 1 F__check_items)) (G__rank : Has P w K mg base CX "_rank" 1 ["items", "name"] [] (spF K 2 F__rank)) (G__as_tuples : Has P w K mg base CX "_as_tuples" 1 ["items"] [] (spF K 1 F__as_tuples)) (F : FunD K "dropped" "dropped" (defArgs s_dropped) (defBody s_dropped) (defScope s_dropped) [] [] f fd) (hm : mg "dropped" = some (.ref f)) :
    Has P w K mg base CX "dropped" 5 ["items", "name"] [] (spF K 2 F_dropped) := by
  letI : Fd.Uw := ⟨P, w⟩
  refine has_mk F hm sc_dropped (spF_len rfl) (fun _ _ _ _ _ _ us hl => match us, hl with | [_, _], _ => rfl) fun cdv A outer s H vs Q E hr h => ?_
  refine ⟨_, (pss_cons (ps_expr (pe_has G__check_items (hr.mono (by first | decide | omega)) (by rfl) (pa_cons (pv 0) pa_nil) (nx _))) (pss_cons (ps_if (pt_cmpR op_isN (pe_has G__rank (hr.mono (by first | decide | omega)) (by rfl) (pa_cons (pv 0) (pa_cons (pv 1) pa_nil)) (nx _)) pe_non (nomark _)) (pss_one ps_never) pss_nil) (pss_one (ps_ret (pe_callTy (ck_tupU (K := K) rfl) (by rfl) bl.tuple bb_tuple (pa_cons (pe_lc (own := [("row", 2)]) (by rfl) sc_dropped.nd (pik_row (K := K) rfl (pe_has G__as_tuples (hr.mono (by first | decide | omega)) (by rfl) (pa_cons (pv 0) pa_nil) (nx _))) (blkOk_by (own := [("row", 2)]) (N := n_dropped) (sc := defScope s_dropped) (by decide +kernel)) (fun _ _ _ _ _ => (pg_name (i := 2) sc_dropped.nd rfl (Or.inl rfl) (Or.inr rfl))) (fun _ _ _ _ _ => (pts_one (pt_cmpR (ok_neD (K := K) rfl hr.units) (pe_ix (ixk_seq (K := K) rfl) (pv 2) pe_int (fun _ _ => rfl)) (pv 1) (nomark _)))) (fun _ _ _ _ _ => (pv 2))) pa_nil)))))), body_F (n := 1) ?_ rfl h⟩
  exact (ss_seq (ss_drop (se_call (fun _ => .nil) (sa_cons se_var sa_nil))) (ss_seq (ss_if (st_test (se_isN (se_call (fun _ => .nil) (sa_cons se_var (sa_cons se_var sa_nil))) se_non)) ss_never ss_next) (ss_ret (se_tupC (sa_cons (se_fz (sl_lc (si_row (se_call (fun _ => .nil) (sa_cons se_var sa_nil))) sg_name (st_test (se_ne (se_ix se_var se_int) se_var)) se_var (by decide))) sa_nil)))))
abbrev s_place_of : Stmt := topS 16
abbrev n_place_of : List Str := ["items", "name", "rank"]
theorem sc_place_of : FnScope n_place_of ["items", "name"] (defScope s_place_of) := ⟨rfl, rfl, rfl, by decide +kernel, rfl, by decide +kernel, by decide +kernel⟩
theorem H_place_of (bl : Bm mg) (nx : NoY CX) (G__check_items : Has P w K mg base CX "_check_items" 4 ["items"] [] (spF K 1 F__check_items)) (G__check_name : Has P w K mg base CX "_check_name" 2 ["name"] [] (spF K 1 F__check_name)) (G__rank : Has P w K mg base CX "_rank" 1 ["items", "name"] [] (spF K 2 F__rank)) (F : FunD K "place_of" "place_of" (defArgs s_place_of) (defBody s_place_of) (defScope s_place_of) [] [] f fd) (hm : mg "place_of" = some (.ref f)) :
    Has P w K mg base CX "place_of" 5 ["items", "name"] [] (spF K 2 F_place_of) := by
  letI : Fd.Uw := ⟨P, w⟩
  refine has_mk F hm sc_place_of (spF_len rfl) (fun _ _ _ _ _ _ us hl => match us, hl with | [_, _], _ => rfl) fun cdv A outer s H vs Q E hr h => ?_
  refine ⟨_, (pss_cons (ps_expr (pe_has G__check_items (hr.mono (by first | decide | omega)) (by rfl) (pa_cons (pv 0) pa_nil) (nx _))) (pss_cons (ps_expr (pe_has G__check_name (hr.mono (by first | decide | omega)) (by rfl) (pa_cons (pv 1) pa_nil) (nx _))) (pss_cons (ps_set (i := 2) sc_place_of.nd rfl (by first | exact .inl rfl | exact .inr rfl) (pe_has G__rank (hr.mono (by first | decide | omega)) (by rfl) (pa_cons (pv 0) (pa_cons (pv 1) pa_nil)) (nx _))) (pss_cons (ps_if (pt_cmpR op_isN (pv 2) pe_non (nomark _)) (pss_one (ps_ret pe_non)) pss_nil) (pss_one (ps_ret (pe_tupZ (pa_cons (pv 2) (pa_cons (pe_op op_sub (pe_op op_sub (pe_callB (ck_lenU (K := K) rfl) (by rfl) bl.len bb_len (pa_cons (pv 0) pa_nil)) pe_int) (pv 2)) pa_nil))))))))), body_F (n := 1) ?_ rfl h⟩
  exact (ss_seq (ss_drop (se_call (fun _ => .nil) (sa_cons se_var sa_nil))) (ss_seq (ss_drop (se_call (fun _ => .nil) (sa_cons se_var sa_nil))) (ss_seq (ss_asg (se_call (fun _ => .nil) (sa_cons se_var (sa_cons se_var sa_nil))) sg_name) (ss_seq (ss_if (st_test (se_isN se_var se_non)) (ss_ret se_non) ss_next) (ss_ret (se_tup (sa_cons se_var (sa_cons (se_sub (se_sub (se_len (sa_cons se_var sa_nil)) se_int) se_var) sa_nil))))))))
abbrev s__law_places_right : Stmt := topS 32
abbrev n__law_places_right : List Str := ["_law_items_here", "_law_found", "_law_name_here", "_law_names", "_law_due_here", "_law_score", "_law_height"]
theorem sc__law_places_right : FnScope n__law_places_right ["_law_items_here", "_law_found"] (defScope s__law_places_right) := ⟨rfl, rfl, rfl, by decide +kernel, rfl, by decide +kernel, by decide +kernel⟩
theorem H__law_places_right (bl : Bm mg) (nx : NoY CX) (G__law_due : Has P w K mg base CX "_law_due" 1 ["_law_found"] [] (spF K 1 F__law_due)) (G_place_of : Has P w K mg base CX "place_of" 5 ["items", "name"] [] (spF K 2 F_place_of)) (G_is_scored : Has P w K mg base CX "is_scored" 4 ["thing"] [] (spF K 1 F_is_scored)) (F : FunD K "_law_places_right" "_law_places_right" (defArgs s__law_places_right) (defBody s__law_places_right) (defScope s__law_places_right) [] [] f fd) (hm : mg "_law_places_right" = some (.ref f)) :
    Has P w K mg base CX "_law_places_right" 6 ["_law_items_here", "_law_found"] [] (spF K 2 F__law_places_right) := by
  letI : Fd.Uw := ⟨P, w⟩
  refine has_mk F hm sc__law_places_right (spF_len rfl) (fun _ _ _ _ _ _ us hl => match us, hl with | [_, _], _ => rfl) fun cdv A outer s H vs Q E hr h => ?_
  refine ⟨_, (pss_cons (ps_setLc (i := 3) (own := [("_law_score", 5), ("_law_name_here", 2), ("_law_height", 6)]) (by rfl) sc__law_places_right.nd rfl rfl (sw_true rfl rfl rfl (by decide +kernel)) (pik_row (K := K) rfl (pe_has G__law_due (hr.mono (by first | decide | omega)) (by rfl) (pa_cons (pv 1) pa_nil) (nx _))) (blkOk_by (own := [("_law_score", 5), ("_law_name_here", 2), ("_law_height", 6)]) (N := n__law_places_right) (sc := defScope s__law_places_right) (by decide +kernel)) (fun _ _ _ _ _ => (pgk_row (K := K) (n := 3) rfl rfl (pgs_cons (pg_name (i := 5) sc__law_places_right.nd rfl (Or.inl rfl) (Or.inr rfl)) (pgs_cons (pg_name (i := 2) sc__law_places_right.nd rfl (Or.inl rfl) (Or.inr rfl)) (pgs_cons (pg_name (i := 6) sc__law_places_right.nd rfl (Or.inl rfl) (Or.inr rfl)) pgs_nil rfl) rfl) rfl) rfl rfl)) (fun _ _ _ _ _ => pts_nil) (fun _ _ _ _ _ => (pv 2))) (pss_cons (ps_for PassesOwn.never rfl (pik_row (K := K) rfl (pe_lst (pa_cons pe_str (pa_cons pe_str (pa_cons pe_str (pa_cons pe_str (pa_cons pe_str (pa_cons pe_str (pa_cons pe_str (pa_cons pe_str (pa_cons pe_str (pa_cons pe_str (pa_cons pe_str pa_nil))))))))))))) (pg_name (i := 2) sc__law_places_right.nd rfl (by first | exact .inl rfl | exact .inr rfl)) (pss_cons (ps_set (i := 4) sc__law_places_right.nd rfl (by first | exact .inl rfl | exact .inr rfl) (pe_ifExp (pt_cmpR (ok_inU (K := K) rfl (room65 hr)) (pv 2) (pv 3) (by rfl)) (pe_tupZ (pa_cons (pe_bm PySem.F.plainAttrs_list PySem.F.slot_list_index PySem.F.type_list_index (mk_index (K := K) rfl) (pv 3) (pa_cons (pv 2) pa_nil)) (pa_cons (pe_op op_sub (pe_op op_sub (pe_callB (ck_lenU (K := K) rfl) (by rfl) bl.len bb_len (pa_cons (pv 3) pa_nil)) pe_int) (pe_bm PySem.F.plainAttrs_list PySem.F.slot_list_index PySem.F.type_list_index (mk_index (K := K) rfl) (pv 3) (pa_cons (pv 2) pa_nil))) pa_nil))) pe_non)) (pss_one (ps_if (pt_cmpR (ok_neD (K := K) rfl hr.units) (pe_has G_place_of (hr.mono (by first | decide | omega)) (by rfl) (pa_cons (pv 0) (pa_cons (pv 2) pa_nil)) (nx _)) (pv 4) (nomark _)) (pss_one (ps_ret pe_bl)) pss_nil)))) (pss_one (ps_ret (pe_and (pe_has G_is_scored (hr.mono (by first | decide | omega)) (by rfl) (pa_cons (pv 0) pa_nil) (nx _)) (pe_one (pe_cmpR op_isN (pe_has G_place_of (hr.mono (by first | decide | omega)) (by rfl) (pa_cons (pe_callTy (ck_lstU (K := K) rfl) (by rfl) bl.list bb_list (pa_cons (pv 0) pa_nil)) (pa_cons pe_str pa_nil)) (nx _)) pe_non (nomark _)))))))), body_F (n := 5) ?_ rfl h⟩
  exact (ss_seq (ss_asg (se_fz (sl_lc (si_row (se_call (fun _ => .nil) (sa_cons se_var sa_nil))) (sg_row (sgs_cons sg_name (sgs_cons sg_name (sgs_cons sg_name sgs_nil)))) st_yes se_var (by decide))) sg_name) (ss_seq (ss_for (si_row (se_fz (sl_lst (sa_cons se_str (sa_cons se_str (sa_cons se_str (sa_cons se_str (sa_cons se_str (sa_cons se_str (sa_cons se_str (sa_cons se_str (sa_cons se_str (sa_cons se_str (sa_cons se_str sa_nil)))))))))))))) sg_name (ss_seq (ss_asg (se_if (st_test (se_inX se_var se_var)) (se_tup (sa_cons (se_mt mf_index se_var (sa_cons se_var sa_nil)) (sa_cons (se_sub (se_sub (se_len (sa_cons se_var sa_nil)) se_int) (se_mt mf_index se_var (sa_cons se_var sa_nil))) sa_nil))) se_non) sg_name) (ss_if (st_test (se_ne (se_call (fun _ => .nil) (sa_cons se_var (sa_cons se_var sa_nil))) se_var)) (ss_ret se_bl) ss_next))) (ss_ret (se_and (se_call (fun _ => .nil) (sa_cons se_var sa_nil)) (se_isN (se_call (fun _ => .nil) (sa_cons (se_fz (sl_lstC (sa_cons se_var sa_nil))) (sa_cons se_str sa_nil))) se_non)))))
abbrev s_law : Stmt := topS 33
abbrev n_law : List Str := ["_law_script", "_law_cell", "_law_well_here", "_law_items_here", "_law_found", "_law_turn", "_law_name_here", "_law_ahead_so", "_law_item", "_law_lists", "_law_score", "_law_height"]
theorem sc_law : FnScope n_law ["_law_script"] (defScope s_law) := ⟨rfl, rfl, rfl, by decide +kernel, rfl, by decide +kernel, by decide +kernel⟩
theorem H_law (ht : ∀ [Fd.Uw], ∀ ns : List Int, ns.length ≤ 63 → F_law [.list (ns.map .int)] = some (.bool true)) (bl : Bm mg) (nx : NoY CX) (G__law_well : Has P w K mg base CX "_law_well" 1 ["_law_cell"] [] (spL K 1 F__law_well)) (G__law_one : Has P w K mg base CX "_law_one" 2 ["_law_well_here", "_law_some"] [] (spM K 2 F__law_one)) (G__law_name : Has P w K mg base CX "_law_name" 3 ["_law_well_here"] [] (spM K 1 F__law_name)) (G__law_draw : Has P w K mg base CX "_law_draw" 1 ["_law_well_here", "_law_bound"] [] (spM K 2 F__law_draw)) (G_dropped : Has P w K mg base CX "dropped" 5 ["items", "name"] [] (spF K 2 F_dropped)) (G_added : Has P w K mg base CX "added" 5 ["items", "name", "score", "height"] [] (spF K 4 F_added)) (G__law_places_right : Has P w K mg base CX "_law_places_right" 6 ["_law_items_here", "_law_found"] [] (spF K 2 F__law_places_right)) (G__law_due : Has P w K mg base CX "_law_due" 1 ["_law_found"] [] (spF K 1 F__law_due)) (F : FunD K "law" "law" (defArgs s_law) (defBody s_law) (defScope s_law) [] [] f fd) :
    FnOk P w K mg base CX 7 f fd ["_law_script"] (spLaw K) := by
  letI : Fd.Uw := ⟨P, w⟩
  refine F.ok sc_law (fun vs H Q E h => by obtain ⟨a, ns, rfl, _⟩ := h; rfl) fun cdv A outer s H vs Q E hr h => ?_
  suffices z : ∃ t, PSs (cxOf CX P w K mg base n_law "law" (defScope s_law) f cdv A outer s H E).nox (defBody s_law) t ∧ t { nx := fun _ H' => Q .non H', rt := Q } (L2.start n_law vs) H by
    obtain ⟨t, h1, h2⟩ := z
    exact ⟨t, h1.nox, h2⟩
  refine ⟨_, (pss_cons (ps_for PassesOwn.never rfl (pik_row (K := K) rfl (pe_op (ok_addU (K := K) rfl) (pe_slice (slk_sliceU (K := K) rfl) (pv 0) po_none (po_some pe_int)) (pe_lst (pa_cons pe_int pa_nil)))) (pg_name (i := 1) sc_law.nd rfl (by first | exact .inl rfl | exact .inr rfl)) (pss_cons (ps_set (i := 2) sc_law.nd rfl (by first | exact .inl rfl | exact .inr rfl) (pe_has G__law_well (hr.mono (by first | decide | omega)) (by rfl) (pa_cons (pv 1) pa_nil) (nx _))) (pss_cons (ps_par (i := 3) (j := 4) (by rfl) sc_law.nd rfl rfl (by decide) rfl rfl (pa_cons (pe_tupZ pa_nil) (pa_cons (pe_exE pe_dnewK) pa_nil)) (by rfl)) (pss_one (ps_for PassesOwn.never rfl (pi_range1 rfl bl.range (pa_cons (pe_has G__law_one (hr.mono (by first | decide | omega)) (by rfl) (pa_cons (pv 2) (pa_cons (pe_lst (pa_cons pe_int (pa_cons pe_int pa_nil))) pa_nil)) (nx _)) pa_nil)) (pg_name (i := 5) sc_law.nd rfl (by first | exact .inl rfl | exact .inr rfl)) (pss_cons (ps_par (i := 6) (j := 7) (by rfl) sc_law.nd rfl rfl (by decide) rfl rfl (pa_cons (pe_has G__law_name (hr.mono (by first | decide | omega)) (by rfl) (pa_cons (pv 2) pa_nil) (nx _)) (pa_cons (pv 3) pa_nil)) (by rfl)) (pss_cons (ps_if (PW.pt (pw_and (pt_cmpR (ok_inA (K := K) rfl (room65 hr)) (pv 6) (pv 4) (by rfl)) (pw_and1 (pt_cmpR (ok_eqD (K := K) rfl hr.units) (pe_has G__law_draw (hr.mono (by first | decide | omega)) (by rfl) (pa_cons (pv 2) (pa_cons pe_int pa_nil)) (nx _)) pe_int (nomark _))))) (pss_cons (ps_setLc (i := 9) (own := [("_law_item", 8)]) (by rfl) sc_law.nd rfl rfl (sw_true rfl rfl rfl (by decide +kernel)) (pik_row (K := K) rfl (pv 3)) (blkOk_by (own := [("_law_item", 8)]) (N := n_law) (sc := defScope s_law) (by decide +kernel)) (fun _ _ _ _ _ => (pg_name (i := 8) sc_law.nd rfl (Or.inl rfl) (Or.inr rfl))) (fun _ _ _ _ _ => pts_nil) (fun _ _ _ _ _ => (pe_callTy (ck_lstU (K := K) rfl) (by rfl) bl.list bb_list (pa_cons (pv 8) pa_nil)))) (pss_cons (ps_set (i := 3) sc_law.nd rfl (by first | exact .inl rfl | exact .inr rfl) (pe_has G_dropped (hr.mono (by first | decide | omega)) (by rfl) (pa_cons (pv 9) (pa_cons (pv 6) pa_nil)) (nx _))) (pss_cons (ps_for PassesOwn.never rfl (pik_row (K := K) rfl (pv 9)) (pg_name (i := 8) sc_law.nd rfl (by first | exact .inl rfl | exact .inr rfl)) (pss_one (ps_expr (pe_bm PySem.F.plainAttrs_list PySem.F.slot_list_append PySem.F.type_list_append mt_append (pv 8) (pa_cons pe_non pa_nil))))) (pss_one (ps_expr (pe_exA (pe_dpop1 (pv 4) (pv 6) ⟨rfl, rfl, rfl, rfl⟩))))))) (pss_cons (ps_par (i := 10) (j := 11) (by rfl) sc_law.nd rfl rfl (by decide) rfl rfl (pa_cons (pe_has G__law_one (hr.mono (by first | decide | omega)) (by rfl) (pa_cons (pv 2) (pa_cons (pe_lst (pa_cons pe_int (pa_cons pe_int (pa_cons pe_int (pa_cons (pe_un un_neg pe_int) (pa_cons pe_int (pa_cons (pe_op op_pow pe_int pe_int) pa_nil))))))) pa_nil)) (nx _)) (pa_cons (pe_op (ok_addU (K := K) rfl) pe_int (pe_has G__law_draw (hr.mono (by first | decide | omega)) (by rfl) (pa_cons (pv 2) (pa_cons pe_int pa_nil)) (nx _))) pa_nil)) (by rfl)) (pss_cons (ps_set (i := 3) sc_law.nd rfl (by first | exact .inl rfl | exact .inr rfl) (pe_has G_added (hr.mono (by first | decide | omega)) (by rfl) (pa_cons (pe_lc (own := [("_law_item", 8)]) (by rfl) sc_law.nd (pik_row (K := K) rfl (pv 3)) (blkOk_by (own := [("_law_item", 8)]) (N := n_law) (sc := defScope s_law) (by decide +kernel)) (fun _ _ _ _ _ => (pg_name (i := 8) sc_law.nd rfl (Or.inl rfl) (Or.inr rfl))) (fun _ _ _ _ _ => pts_nil) (fun _ _ _ _ _ => (pe_callTy (ck_lstU (K := K) rfl) (by rfl) bl.list bb_list (pa_cons (pv 8) pa_nil)))) (pa_cons (pv 6) (pa_cons (pv 10) (pa_cons (pv 11) pa_nil)))) (nx _))) (pss_one (ps_if (PW.pt (pw_or (pt_cmpR (ok_notInA (K := K) rfl (room65 hr)) (pv 6) (pv 4) (by rfl)) (pw_or1 (pt_cmpR (ok_neD (K := K) rfl hr.units) (pe_ix (ixk_seq (K := K) rfl) (pe_ix (ixk_all (K := K) rfl hr.units) (pv 4) (pv 6) (fun _ _ => rfl)) pe_int (fun _ _ => rfl)) (pv 10) (nomark _))))) (pss_one (ps_asg (pe_tupZ (pa_cons (pv 10) (pa_cons (pv 11) pa_nil))) (pg_sub (pv 4) (pv 6) (set_ownK (K := K) rfl hr.units)))) pss_nil))))) (pss_one (ps_if (PW.pt (pw_or (pt_cmpR (ok_neD (K := K) rfl hr.units) (pv 3) (pe_has G__law_due (hr.mono (by first | decide | omega)) (by rfl) (pa_cons (pv 4) pa_nil) (nx _)) (nomark _)) (pw_or (pt_not (ptk_truU (K := K) rfl (pe_callB (ck_isi (K := K) rfl) (by rfl) bl.isinstance bb_isinstance (pa_cons (pv 7) (pa_cons (pe_bltn (v := .ty "tuple") (by rfl) bl.tuple bb_tuple rfl) pa_nil))))) (pw_or1 (pt_not (ptk_truU (K := K) rfl (pe_has G__law_places_right (hr.mono (by first | decide | omega)) (by rfl) (pa_cons (pv 3) (pa_cons (pv 4) pa_nil)) (nx _)))))))) (pss_one (ps_ret pe_bl)) pss_nil))))))))) (pss_one (ps_ret pe_bl))), body_law (E := E) ?_ rfl (fun ns hn => ht ns hn) h⟩
  exact (ss_seq (ss_for (si_row (se_add (se_sl se_var so_none (so_some se_int)) (se_fz (sl_lst (sa_cons se_int sa_nil))))) sg_name (ss_seq (ss_asgO (sl_call (fun _ => .nil) (sa_cons se_var sa_nil))) (ss_seq (ss_parX (sx_cons (se_tup sa_nil) (sx_consQ sq_new sx_nil))) (ss_for (si_rg1 (sa_cons (se_callM (sa_cons (se_fz (sl_lst (sa_cons se_int (sa_cons se_int sa_nil)))) sa_nil)) sa_nil)) sg_name (ss_seq (ss_par (sa_cons (se_callM sa_nil) (sa_cons se_var sa_nil))) (ss_seq (ss_if (st_and (st_test (se_bor (se_inQ se_var se_var))) (st_test (se_eq (se_callM (sa_cons se_int sa_nil)) se_int))) (ss_free1 (slf_lc (si_row se_var) sg_name st_yes (sef_fz sl_lstV) (by decide)) (sk_asg (se_call (fun _ => .nil) (sa_cons se_var (sa_cons se_var sa_nil))) (by decide)) (sw_appR (by decide) (by decide)) (ss_popQ se_var)) (ss_seq (ss_par (sa_cons (se_callM (sa_cons (se_fz (sl_lst (sa_cons se_int (sa_cons se_int (sa_cons se_int (sa_cons (se_neg se_int) (sa_cons se_int (sa_cons (se_pow se_int se_int) sa_nil)))))))) sa_nil)) (sa_cons (se_add se_int (se_callM (sa_cons se_int sa_nil))) sa_nil))) (ss_seq (ss_asg (se_call (fun _ => .nil) (sa_cons (se_fz (sl_lc (si_row se_var) sg_name st_yes (se_fz sl_lstV) (by decide))) (sa_cons se_var (sa_cons se_var (sa_cons se_var sa_nil))))) sg_name) (ss_if (st_or (st_test (se_bor (se_notInQ se_var se_var))) (st_test (se_bor (se_ne (se_ix (se_ixQ se_var se_var) se_int) se_var)))) (ss_setQ (se_tup (sa_cons se_var (sa_cons se_var sa_nil))) se_var) ss_next)))) (ss_if (st_or (st_test (se_bor (se_ne se_var (se_call (fun _ => .nil) (sa_cons se_var sa_nil))))) (st_or (st_not (st_truU (se_isi se_var))) (st_not (st_truU (se_bor (se_call (fun _ => .nil) (sa_cons se_var (sa_cons se_var sa_nil)))))))) (ss_ret se_bl) ss_next))))))) (ss_ret se_bl))
end
end Tk
end

section
set_option Elab.async false
set_option linter.all false
set_option maxRecDepth 100000
set_option maxHeartbeats 1000000
/-! k44: draws, kinds of data (of earlier texts). -/
variable [Fd.Uw]
namespace Tk
open PySem PySem.Spec PyProof.Rows L2 Evl Tb Fd
theorem e_is_whole (d : PyData) (h : isDi d = false) : F_is_whole [d] = some (.bool (wholeD d)) := by
  cases d <;> first | (cases h; done) | simp [F_is_whole, fnD, m_is_whole, init, retD, wholeD]
theorem e_whole_i (i : Int) : F_is_whole [.int i] = some (.bool true) := e_is_whole _ rfl
theorem e_is_row (d : PyData) (h : isDi d = false) : F_is_row [d] = some (.bool (rowD d)) := by
  simp [F_is_row, fnD, m_is_row, init, retD, h]
theorem divD_pos {i j : Int} (h : 0 < j) (h2 : j.natAbs < 2 ^ 70) : divD (.int i) (.int j) = some (.int (i / j)) := if_pos (wide_div h h2 (by decide) (by decide))
theorem divD_two {i : Int} : divD (.int i) (.int 2) = some (.int (i / 2)) := divD_pos (by decide) (by decide)
theorem cut_to {α : Type} (xs : List α) (n : Nat) : cutL xs none (some (n : Int)) = xs.take n := by
  unfold cutL
  rw [HT.sIx_none, HT.sIx_nat, List.drop_zero, Nat.sub_zero]
  by_cases c : n ≤ xs.length
  · rw [show min n xs.length = n by omega]
  · rw [show min n xs.length = xs.length by omega, List.take_length, List.take_of_length_le (by omega)]
theorem cut_from {α : Type} (xs : List α) (n : Nat) : cutL xs (some (n : Int)) none = xs.drop n := by
  unfold cutL
  rw [HT.sIx_none, HT.sIx_nat]
  by_cases c : n ≤ xs.length
  · rw [show min n xs.length = n by omega, List.take_of_length_le (by rw [List.length_drop]; exact Nat.le_refl _)]
  · rw [show min n xs.length = xs.length by omega, List.drop_of_length_le (Nat.le_refl _), List.drop_of_length_le (by omega), List.take_nil]
theorem eqS_same (z : Str) (h : SeqAt.shaped (.str z) = true) : eqD (.str z) (.str z) = some (.bool true) := by
  unfold eqD
  rw [h]
  simp [PyData.eqv]
theorem eqS_ne {y z : Str} (hy : SeqAt.shaped (.str y) = true) (hz : SeqAt.shaped (.str z) = true) (h : (y == z) = false) : eqD (.str y) (.str z) = some (.bool false) := by
  unfold eqD
  rw [hy, hz]
  show some (PyData.bool (y == z)) = _
  rw [h]
theorem seq_nx {A C : Ds} {e e1 : En} (h : A e = some (.nx e1)) : sSeq A C e = C e1 := by
  unfold sSeq
  rw [h]
theorem mulD_left {i j : Int} (h1 : -(2 ^ 64) < i) (h2 : i < 2 ^ 64) : mulD (.int i) (.int j) = some (.int (i * j)) := if_pos (.inl (.inl ⟨h1, h2⟩))
theorem mulD_right {i j : Int} (h1 : -(2 ^ 64) < j) (h2 : j < 2 ^ 64) : mulD (.int i) (.int j) = some (.int (i * j)) := if_pos (.inl (.inr ⟨h1, h2⟩))
theorem modD_pos {i j : Int} (h : 0 < j) : modD (.int i) (.int j) = some (.int (i % j)) := if_pos h
theorem powD_ok {i j : Int} (h : CPow i j) : powD (.int i) (.int j) = some (.int (i ^ j.toNat)) := if_pos h
theorem intD_int (i : Int) : intD [.int i] = some (.int i) := rfl
theorem intD_bool (b : Bool) : intD [.bool b] = some (.int (if b then 1 else 0)) := rfl
theorem mod_in {x m : Int} (h : 0 < m) : 0 ≤ x % m ∧ x % m < m := ⟨Int.emod_nonneg x (by omega), Int.emod_lt_of_pos x h⟩
def srcT (t : Int × Int × Int) : List PyData := [.int t.1, .int t.2.1, .int t.2.2]
theorem e_well (k : Int) : ∃ t, F__law_well [.int k] = some (srcT t) := by
  have hp : powD (.int 10) (.int 18) = some (.int ((10 : Int) ^ (18 : Int).toNat)) := powD_ok ⟨by decide, by decide, by decide⟩
  have hm : ∀ b : Bool, mulD (.int k) (.int (if b then 1 else 0)) = some (.int (k * if b then 1 else 0)) := fun b => mulD_right (by cases b <;> decide) (by cases b <;> decide)
  have hd : modD (.int k) (.int 2147483629) = some (.int (k % 2147483629)) := modD_pos (by decide)
  refine ⟨(k * (if decide ((10 : Int) ^ (18 : Int).toNat ≤ k) = true then 1 else 0), k % 2147483629, 0), ?_⟩
  unfold F__law_well fnL m__law_well
  rw [show init [.int k] 0 = [.d (.int k)] from rfl]
  simp only [sRetL_e, dLst_e, dBind_e, dCons_e, dOp_e, dVar_e, dK_e, dLift_e, List.getElem?_cons_zero, hp, geD_int, intD_bool, intD_int, hm, hd, small, List.length_cons, List.length_nil, Option.map_some]
  rfl
theorem e_draw (t : Int × Int × Int) {m : Int} (h0 : 0 < m) (h1 : m ≤ 10 ^ 20) : ∃ r t', F__law_draw (srcT t) [.int m] = some (.int r, srcT t') ∧ 0 ≤ r ∧ r < m := by
  obtain ⟨a, b, c⟩ := t
  have m70 : m.natAbs < 2 ^ 70 := by
    have : (10 : Int) ^ 20 < 2 ^ 70 := by decide
    omega
  have k0 : ∀ x y z : PyData, atI [x, y, z] 0 = some x := fun _ _ _ => at_0 ..
  have k1 : ∀ x y z : PyData, atI [x, y, z] 1 = some y := fun _ _ _ => at_1 ..
  have k2 : ∀ x y z : PyData, atI [x, y, z] 2 = some z := fun _ _ _ => at_2 ..
  have s0 : ixN 3 0 = some 0 := rfl
  have s2 : ixN 3 2 = some 2 := rfl
  by_cases ca : 0 < a
  · refine ⟨a % m, (a / m, b, c), ?_, (mod_in h0).1, (mod_in h0).2⟩
    simp [F__law_draw, srcT, fnM, m__law_draw, init, dIxV, ownL, k0, ca, intD_int, modD_pos h0, divD_pos h0 m70, setD, canSet, sSetIx, s0, putL]
  · have p0 : (0 : Int) < 2147483647 := by decide
    have p1 : (0 : Int) < 2147483587 := by decide
    have p2 : (0 : Int) < 2147483399 := by decide
    have bg : (2147483647 : Int) < 2 ^ 64 := by decide
    have h4 : mulD (.int 9973) (.int (c + 1)) = some (.int (9973 * (c + 1))) := mulD_left (by decide) (by decide)
    have h5 : mulD (.int (b + 9973 * (c + 1) + 17)) (.int 48271) = some (.int ((b + 9973 * (c + 1) + 17) * 48271)) := mulD_right (by decide) (by decide)
    have b5 := mod_in (x := (b + 9973 * (c + 1) + 17) * 48271) p0
    have hm5 : modD (.int ((b + 9973 * (c + 1) + 17) * 48271)) (.int 2147483647) = some (.int ((b + 9973 * (c + 1) + 17) * 48271 % 2147483647)) := modD_pos p0
    generalize (b + 9973 * (c + 1) + 17) * 48271 % 2147483647 = n5 at b5 hm5
    have h6 : mulD (.int n5) (.int (n5 / 1021 + 69621 + (c + 1))) = some (.int (n5 * (n5 / 1021 + 69621 + (c + 1)))) := mulD_left (by omega) (by omega)
    have d6 : divD (.int n5) (.int 1021) = some (.int (n5 / 1021)) := divD_pos (by decide) (by decide)
    have b6 := mod_in (x := n5 * (n5 / 1021 + 69621 + (c + 1))) p1
    have hm6 : modD (.int (n5 * (n5 / 1021 + 69621 + (c + 1)))) (.int 2147483587) = some (.int (n5 * (n5 / 1021 + 69621 + (c + 1)) % 2147483587)) := modD_pos p1
    generalize n5 * (n5 / 1021 + 69621 + (c + 1)) % 2147483587 = n6 at b6 hm6
    have h7 : mulD (.int n6) (.int (n6 / 2011 + 40692)) = some (.int (n6 * (n6 / 2011 + 40692))) := mulD_left (by omega) (by omega)
    have d7 : divD (.int n6) (.int 2011) = some (.int (n6 / 2011)) := divD_pos (by decide) (by decide)
    have hm7 : modD (.int (n6 * (n6 / 2011 + 40692))) (.int 2147483399) = some (.int (n6 * (n6 / 2011 + 40692) % 2147483399)) := modD_pos p2
    generalize n6 * (n6 / 2011 + 40692) % 2147483399 = n7 at hm7
    have d8 : divD (.int n7) (.int 7) = some (.int (n7 / 7)) := divD_pos (by decide) (by decide)
    have hm8 : modD (.int (n7 / 7)) (.int m) = some (.int (n7 / 7 % m)) := modD_pos h0
    refine ⟨n7 / 7 % m, (a, b, c + 1), ?_, (mod_in h0).1, (mod_in h0).2⟩
    simp [F__law_draw, srcT, fnM, m__law_draw, init, dIxV, ownL, k0, k1, k2, ca, intD_int, setD, canSet, sSetIx, s0, s2, putL, h4, h5, hm5, h6, d6, hm6, h7, d7, hm7, d8, hm8]
theorem e_one (t : Int × Int × Int) {xs : List Int} (h0 : xs ≠ []) (h1 : xs.length ≤ 1000) : ∃ x t', F__law_one (srcT t) [.list (xs.map .int)] = some (.int x, srcT t') ∧ x ∈ xs := by
  have hp := List.length_pos_iff.mpr h0
  obtain ⟨r, t', hr, r0, r1⟩ := e_draw t (m := (xs.length : Int)) (by omega) (by omega)
  have hlt : r.toNat < xs.length := by omega
  have hx : xs[r.toNat]? = some xs[r.toNat] := List.getElem?_eq_getElem hlt
  refine ⟨xs[r.toNat], t', ?_, List.getElem_mem hlt⟩
  have hix : ixD (.list (xs.map .int)) (.int r) = some (.int xs[r.toNat]) := by
    have := at_nat (ds := xs.map PyData.int) (i := r.toNat) (d := .int xs[r.toNat]) (by rw [List.getElem?_map, hx]; rfl)
    rw [show ((r.toNat : Nat) : Int) = r by omega] at this
    exact this
  have hlen : lenD [.list (xs.map .int)] = some (.int (xs.length : Int)) := by
    rw [Fd.len_list, List.length_map]
  generalize xs[r.toNat] = x at *
  generalize xs.map PyData.int = X at *
  simp [F__law_one, fnM, m__law_one, init, hlen, dCallM, ownB, hr, hix]
theorem e_oneD (t : Int × Int × Int) {xs : List Int} {ds : List PyData} (hd : ds = xs.map .int) (h0 : xs ≠ []) (h1 : xs.length ≤ 1000) : ∃ x t', F__law_one (srcT t) [.list ds] = some (.int x, srcT t') ∧ x ∈ xs := hd ▸ e_one t h0 h1
theorem e_check_key (k : Int) : F_check_key [.int k] = some .none := by
  simp [F_check_key, fnD, m_check_key, init, e_whole_i, retD]
theorem seq_rt {A C : Ds} {e e1 : En} {d : PyData} (h : A e = some (.rt d e1)) : sSeq A C e = some (.rt d e1) := by
  unfold sSeq
  rw [h]
theorem runLc_gen {α : Type} {g : PyData → En → Option En} {t : Dn Bool} {f : Dn PyData} {vs : List Nat} {w : En} (D : α → PyData) (P : α → Bool) (y : α → PyData) : ∀ (L : List α),
    (∀ a ∈ L, ∃ e1, g (D a) w = some e1 ∧ t e1 = some (P a, e1) ∧ (P a = true → f e1 = some (y a, e1)) ∧ wipeE e1 vs = w) → runLc g t f vs (L.map D) w = some ((L.filter P).map y, w)
  | [], _ => rfl
  | a :: L, h => by
    obtain ⟨e1, h1, h2, h3, h4⟩ := h a (List.mem_cons_self ..)
    have ih := runLc_gen D P y L fun x hx => h x (List.mem_cons_of_mem _ hx)
    rw [List.map_cons]
    unfold runLc
    rw [h1]
    cases hp : P a with
    | false =>
      rw [hp] at h2
      simp only [h2, h4, ih, List.filter_cons, hp]
      rfl
    | true =>
      rw [hp] at h2
      simp only [h2, h3 hp, h4, ih, List.filter_cons, hp]
      rfl
/-- a comprehension over data that a list gives -/
theorem lc_gen {α : Type} {it : Dn (List PyData)} {g : PyData → En → Option En} {t : Dn Bool} {f : Dn PyData} {vs : List Nat} {e e0 w : En} {L : List α} (D : α → PyData) (P : α → Bool) (y : α → PyData) (hi : it e0 = some (L.map D, e)) (hf : vsFree e vs = true) (hw : wipeE e vs = w) (hr : restE e w vs = e) (hl : L.length ≤ 40000)
    (h : ∀ a ∈ L, ∃ e1, g (D a) w = some e1 ∧ t e1 = some (P a, e1) ∧ (P a = true → f e1 = some (y a, e1)) ∧ wipeE e1 vs = w) : dLc it g t f vs e0 = some ((L.filter P).map y, e) := by
  unfold dLc
  rw [hi]
  have hl' : fewer (L.map D) = true := decide_eq_true (by rw [List.length_map]; exact hl)
  simp only [hf, hl', Bool.and_self, if_true, hw, runLc_gen D P y L h, hr]
theorem e_oneG (t : Int × Int × Int) {ds : List PyData} (h0 : ds ≠ []) (h1 : ds.length ≤ 1000) : ∃ d t', F__law_one (srcT t) [.list ds] = some (d, srcT t') ∧ d ∈ ds := by
  have hp := List.length_pos_iff.mpr h0
  obtain ⟨r, t', hr, r0, r1⟩ := e_draw t (m := (ds.length : Int)) (by omega) (by omega)
  have hlt : r.toNat < ds.length := by omega
  have hx : ds[r.toNat]? = some ds[r.toNat] := List.getElem?_eq_getElem hlt
  refine ⟨ds[r.toNat], t', ?_, List.getElem_mem hlt⟩
  have hix : ixD (.list ds) (.int r) = some ds[r.toNat] := by
    have := at_nat hx
    rw [show ((r.toNat : Nat) : Int) = r by omega] at this
    exact this
  have hlen : lenD [.list ds] = some (.int (ds.length : Int)) := rfl
  generalize ds[r.toNat] = x at *
  simp [F__law_one, fnM, m__law_one, init, hlen, dCallM, ownB, hr, hix]
theorem one_str (t : Int × Int × Int) {ns : List Str} {ds : List PyData} (hd : ds = ns.map .str) (h0 : ns ≠ []) (h1 : ns.length ≤ 1000) : ∃ n t', F__law_one (srcT t) [.list ds] = some (.str n, srcT t') ∧ n ∈ ns := by
  subst hd
  obtain ⟨d, t', h2, h3⟩ := e_oneG t (ds := ns.map PyData.str) (by simpa using h0) (by rw [List.length_map]; exact h1)
  obtain ⟨n, hn, rfl⟩ := List.mem_map.mp h3
  exact ⟨n, t', h2, hn⟩
end Tk
end

section
set_option Elab.async false
set_option linter.all false
set_option maxRecDepth 100000
set_option maxHeartbeats 1000000
/-! k44: names, items, scored rows of lists and tuples. -/
variable [Fd.Uw]
namespace Tk
open PySem PySem.Spec PyProof.Rows L2 Evl Tb Fd
/-- a score, a name, a height -/
abbrev Itm := Int × Str × Int
def itK (q : Itm) : List Key := [.inl q.1, .inr q.2.1, .inl q.2.2]
def itD (q : Itm) : PyData := .tuple [.int q.1, .str q.2.1, .int q.2.2]
theorem it_fl (q : Itm) : flTup (itK q) = itD q := rfl
def nmsL : List Str := ["a", "b", "c", "ab", "ba", "z", "zz", "abcdefgh", "zzzzzzzz", "m"]
def signB (c : Nat) : Bool := !decide ((⟨#[c]⟩ : Str).cps.toList < ("a" : Str).cps.toList) && !decide (("z" : Str).cps.toList < (⟨#[c]⟩ : Str).cps.toList)
def nameB (n : Str) : Bool := n.cps.toList.all signB && (decide (1 ≤ n.length) && decide (n.length ≤ 8))
theorem nms_ok : nmsL.all nameB = true := by decide +kernel
theorem nms_sh : nmsL.all (fun n => SeqAt.shaped (.str n)) = true := by decide +kernel
theorem bls_map : ∀ l : List Bool, blsOf (l.map .bool) = some l
  | [] => rfl
  | b :: l => by
    show (blsOf (l.map .bool)).map (b :: ·) = _
    rw [bls_map l]
    rfl
theorem e_is_name {n : Str} (h : nameB n = true) : F__is_name [.str n] = some (.bool true) := by
  unfold nameB at h
  rw [Bool.and_eq_true, Bool.and_eq_true, decide_eq_true_iff, decide_eq_true_iff] at h
  obtain ⟨h1, h2, h3⟩ := h
  have k := lc_gen (it := dChars (dVar 0)) (g := dName 1) (t := dK true) (f := dChain leD leD (dK (.str "a")) (dVar 1) (dK (.str "z"))) (vs := [1]) (e := [.d (.str n), .no]) (e0 := [.d (.str n), .no]) (w := [.d (.str n), .no]) (L := n.cps.toList)
    (fun c => .str ⟨#[c]⟩) (fun _ => true) (fun c => .bool (signB c)) rfl rfl rfl rfl (by
      have : n.cps.toList.length = n.length := by rw [Array.length_toList]; rfl
      omega) fun c hc => ⟨[.d (.str n), .d (.str ⟨#[c]⟩)], rfl, rfl, fun _ => by
      have l1 : leD (.str "a") (.str ⟨#[c]⟩) = some (.bool (!decide ((⟨#[c]⟩ : Str).cps.toList < ("a" : Str).cps.toList))) := rfl
      have l2 : leD (.str ⟨#[c]⟩) (.str "z") = some (.bool (!decide (("z" : Str).cps.toList < (⟨#[c]⟩ : Str).cps.toList))) := rfl
      unfold signB
      generalize (!decide ((⟨#[c]⟩ : Str).cps.toList < ("a" : Str).cps.toList)) = x at *
      generalize (!decide (("z" : Str).cps.toList < (⟨#[c]⟩ : Str).cps.toList)) = y at *
      cases x <;> simp [l1, l2], rfl⟩
  have hl : lenD [.str n] = some (.int (n.length : Nat)) := if_pos (by omega)
  have c1 : leD (.int 1) (.int (n.length : Nat)) = some (.bool true) := by
    rw [leD_int, decide_eq_true (by omega)]
  have c2 : leD (.int (n.length : Nat)) (.int 8) = some (.bool true) := by
    rw [leD_int, decide_eq_true (by omega)]
  have ha : allD [.list ((n.cps.toList.filter fun _ => true).map fun c => .bool (signB c))] = some (.bool true) := by
    have e1 : ((n.cps.toList.filter fun _ => true).map fun c => PyData.bool (signB c)) = (n.cps.toList.map signB).map .bool := by
      rw [List.filter_eq_self.mpr fun _ _ => rfl, List.map_map]
      rfl
    rw [e1]
    show (blsOf ((n.cps.toList.map signB).map .bool)).map (fun bs => PyData.bool (bs.all id)) = _
    rw [bls_map]
    show some (PyData.bool ((n.cps.toList.map signB).all id)) = _
    rw [List.all_map]
    show some (PyData.bool (n.cps.toList.all signB)) = _
    rw [h1]
  generalize ((n.cps.toList.filter fun _ => true).map fun c => PyData.bool (signB c)) = W at *
  generalize (n.length : Int) = m at *
  simp [F__is_name, fnD, m__is_name, init, isDi, hl, c1, c2, k, ha, retD]
/-- an item, as a list or a tuple -/
def itC (c : Bool) (q : Itm) : PyData := rows c [.int q.1, .str q.2.1, .int q.2.2]
theorem itC_D (q : Itm) : itC false q = itD q := rfl
theorem e_is_item (c : Bool) (q : Itm) (h : nameB q.2.1 = true) (hh : 1 ≤ q.2.2) : F__is_item [itC c q] = some (.bool true) := by
  have h1 := e_is_name h
  have h0 : isDi (itC c q) = false := by cases c <;> rfl
  have h2 := e_is_row (itC c q) h0
  have h3 : lenD [itC c q] = some (.int 3) := by cases c <;> rfl
  have h4 : itemsOf (itC c q) = some [.int q.1, .str q.2.1, .int q.2.2] := by cases c <;> rfl
  have h5 := e_whole_i
  have h6 : rowD (itC c q) = true := by cases c <;> rfl
  generalize itC c q = D at *
  simp [F__is_item, fnD, m__is_item, init, h1, h2, h3, h4, h5, h6, hh, setD, canSet, retD]
/-- a scored row as it must be -/
structure Good (qs : List Itm) : Prop where
  nm : ∀ q ∈ qs, nameB q.2.1 = true ∧ 1 ≤ q.2.2
  inl : ∀ q ∈ qs, q.2.1 ∈ nmsL
  sh : ∀ q ∈ qs, SeqAt.shaped (.str q.2.1) = true
  nd : (qs.map fun q => q.2.1).Nodup
  ord : ∀ (j : Nat) p q, qs[j]? = some p → qs[j + 1]? = some q → Flx.lexK [.inl q.1, .inr q.2.1] [.inl p.1, .inr p.2.1] = false
  len : qs.length ≤ 1000
theorem keysU_strs : ∀ l : List Str, keysU (l.map .str) = l.map Sum.inr
  | [] => rfl
  | x :: l => congrArg (Sum.inr x :: ·) (keysU_strs l)
theorem memK_str (n : Str) (l : List Str) : memK (.inr n) (l.map .str) = decide (n ∈ l) := by
  rw [Bool.eq_iff_iff, memK_iff, keysU_strs, decide_eq_true_iff]
  simp
@[simp] theorem dInS_e {i : Nat} {neg : Bool} {f : Dn PyData} {e : En} : dInS i neg f e = dBind f (fun x e1 => match e1[i]? with
  | some (.u xs) => match keyI x with
    | some k => some (.bool (if neg then !memK k xs else memK k xs), e1)
    | none => none
  | _ => none) e := rfl
theorem sl_two (c : Bool) (q : Itm) : slD (itC c q) none (some 2) = some (rows c [.int q.1, .str q.2.1]) := by
  obtain ⟨s, n, h⟩ := q
  cases c <;> rfl
theorem ltV_two (p q : Itm) : ltVD (.tuple [.int p.1, .str p.2.1]) (.tuple [.int q.1, .str q.2.1]) = some (.bool (Flx.lexK [.inl p.1, .inr p.2.1] [.inl q.1, .inr q.2.1])) := rfl
/-- a scored row as data: b lists, c its items lists -/
def rwD (b c : Bool) (qs : List Itm) : PyData := rows b (qs.map (itC c))
theorem items_rw (b c : Bool) (qs : List Itm) : itemsOf (rwD b c qs) = some (qs.map (itC c)) := by cases b <;> rfl
theorem isDi_rw (b c : Bool) (qs : List Itm) : isDi (rwD b c qs) = false := by cases b <;> rfl
theorem rowD_rw (b c : Bool) (qs : List Itm) : rowD (rwD b c qs) = true := by cases b <;> rfl
theorem ix_rw {b c : Bool} {qs : List Itm} {j : Nat} {p : Itm} (h : qs[j]? = some p) : ixD (rwD b c qs) (.int (j : Int)) = some (itC c p) := by
  have e : atI (qs.map (itC c)) (j : Int) = some (itC c p) := at_nat (by rw [List.getElem?_map, h]; rfl)
  cases b <;> exact e
theorem wi_loop {qs : List Itm} (b c : Bool) (g : Good qs) : ∀ (suf pre : List Itm) (x2 x3 : Sl), qs = pre ++ suf → Fr x2 → Fr x3 → ∃ x2' x3' us,
    runFor (dRow 2 (dGs (dName 2) (dGs (dName 3) dNil))) m__wrong_item_L1 (enD (pre.length : Int) (suf.map (itC c))) [.d (rwD b c qs), .u ((pre.map fun q => q.2.1).map .str), x2, x3] = some (.nx [.d (rwD b c qs), .u us, x2', x3'])
  | [], pre, x2, x3, _, _, _ => ⟨x2, x3, _, rfl⟩
  | q :: suf, pre, x2, x3, e, f2, f3 => by
    have hq : qs[pre.length]? = some q := by rw [e, List.getElem?_append_right (Nat.le_refl _), Nat.sub_self]; rfl
    have hm : q ∈ qs := List.mem_of_getElem? hq
    obtain ⟨n1, n2⟩ := g.nm q hm
    have hi := e_is_item c q n1 n2
    have hnd : memK (.inr q.2.1) ((pre.map fun q => q.2.1).map .str) = false := by
      rw [memK_str]
      refine decide_eq_false fun z => ?_
      have d := g.nd
      rw [e, List.map_append, List.map_cons] at d
      exact (List.nodup_append.mp d).2.2 _ z _ (List.mem_cons_self ..) rfl
    have hlen : ((pre.map fun q => q.2.1).map PyData.str).length < 4000 := by
      have := g.len
      rw [e, List.length_append] at this
      rw [List.length_map, List.length_map]
      omega
    obtain ⟨x2', x3', us, ih⟩ := wi_loop b c g suf (pre ++ [q]) (.d (.int (pre.length : Int))) (.d (itC c q)) (by rw [e, List.append_assoc]; rfl) .d .d
    refine ⟨x2', x3', us, ?_⟩
    have ix1 : ixD (itC c q) (.int 1) = some (.str q.2.1) := by cases c <;> rfl
    have hr : (dRow 2 (dGs (dName 2) (dGs (dName 3) dNil))) (.tuple [.int (pre.length : Int), itC c q]) [.d (rwD b c qs), .u ((pre.map fun q => q.2.1).map .str), x2, x3] = some [.d (rwD b c qs), .u ((pre.map fun q => q.2.1).map .str), .d (.int (pre.length : Int)), .d (itC c q)] := by
      rcases f2 with rfl | ⟨y2, rfl⟩ <;> rcases f3 with rfl | ⟨y3, rfl⟩ <;> rfl
    have hb : m__wrong_item_L1 [.d (rwD b c qs), .u ((pre.map fun q => q.2.1).map .str), .d (.int (pre.length : Int)), .d (itC c q)] = some (.nx [.d (rwD b c qs), .u ((pre.map fun q => q.2.1).map .str ++ [.str q.2.1]), .d (.int (pre.length : Int)), .d (itC c q)]) := by
      have two := sl_two c q
      by_cases h0 : pre = []
      · subst h0
        simp only [List.map_nil] at hnd hlen ⊢
        generalize rwD b c qs = D at *
        generalize itC c q = Q at *
        simp [m__wrong_item_L1, hi, ix1, keyI, hnd, sAddU]
      · obtain ⟨j, hj⟩ : ∃ j, pre.length = j + 1 := ⟨pre.length - 1, by have := List.length_pos_iff.mpr h0; omega⟩
        obtain ⟨p, hp⟩ : ∃ p, qs[j]? = some p := ⟨_, List.getElem?_eq_getElem (by rw [e, List.length_append]; omega)⟩
        rw [hj] at hq
        have ho := g.ord j p q hp hq
        have ix2 : ixD (rwD b c qs) (.int ((pre.length : Int) - 1)) = some (itC c p) := by
          rw [show (pre.length : Int) - 1 = (j : Int) by omega]
          exact ix_rw hp
        have two' := sl_two c p
        have lt := ltV_two q p
        rw [ho] at lt
        have hpos : (0 : Int) < (pre.length : Int) := by omega
        have t1 : ∀ xs : List PyData, tupD [rows c xs] = some (.tuple xs) := fun _ => by cases c <;> rfl
        generalize hZ : (pre.map fun q => q.2.1).map PyData.str = Z at *
        generalize rwD b c qs = D at *
        generalize itC c q = Q at *
        generalize itC c p = P at *
        generalize (pre.length : Int) = m at *
        simp [m__wrong_item_L1, hi, ix1, keyI, hnd, hpos, ix2, dSl, two, two', t1, lt, sAddU, hlen]
    show runFor _ _ (.tuple [.int (pre.length : Int), itC c q] :: enD ((pre.length : Int) + 1) (suf.map (itC c))) _ = _
    rw [runFor_cons_nx hr hb]
    have e1 : ((pre ++ [q]).length : Int) = (pre.length : Int) + 1 := by rw [List.length_append]; rfl
    rw [e1, List.map_append, List.map_append] at ih
    exact ih
theorem e_wrong_item {qs : List Itm} (b c : Bool) (g : Good qs) : F__wrong_item [rwD b c qs] = some .none := by
  obtain ⟨x2, x3, us, h⟩ := wi_loop b c g qs [] .no .no rfl .no .no
  have hr := e_is_row (rwD b c qs) (isDi_rw b c qs)
  have h' : runFor (dRow 2 (dGs (dName 2) (dGs (dName 3) dNil))) m__wrong_item_L1 (enD 0 (qs.map (itC c))) [.d (rwD b c qs), .u [], .no, .no] = some (.nx [.d (rwD b c qs), .u us, x2, x3]) := h
  have hi := items_rw b c qs
  have rd := rowD_rw b c qs
  generalize hD : rwD b c qs = D at *
  generalize qs.map (itC c) = L at *
  simp [F__wrong_item, fnD, m__wrong_item, init, hr, rd, sAsgU, setU, canSet, hi, h', retD]
theorem e_check_items {qs : List Itm} (b c : Bool) (g : Good qs) : F__check_items [rwD b c qs] = some .none := by
  have h := e_wrong_item b c g
  generalize rwD b c qs = D at *
  simp [F__check_items, fnD, m__check_items, init, h, setD, canSet, retD]
theorem e_is_scored {qs : List Itm} (b c : Bool) (g : Good qs) : F_is_scored [rwD b c qs] = some (.bool true) := by
  have h := e_wrong_item b c g
  generalize rwD b c qs = D at *
  simp [F_is_scored, fnD, m_is_scored, init, h, retD]
end Tk
end

section
set_option Elab.async false
set_option linter.all false
set_option maxRecDepth 100000
set_option maxHeartbeats 1000000
/-! k44: ranks, places, rows with a name put in or taken out. -/
variable [Fd.Uw]
namespace Tk
open PySem PySem.Spec PyProof.Rows L2 Evl Tb Fd
theorem eq_str {a b : Str} (ha : SeqAt.shaped (.str a) = true) (hb : SeqAt.shaped (.str b) = true) : eqD (.str a) (.str b) = some (.bool (decide (a = b))) := by
  by_cases c : a = b
  · subst c
    rw [eqS_same a ha, decide_eq_true rfl]
  · rw [eqS_ne ha hb (by simpa using c), decide_eq_false c]
theorem ne_str {a b : Str} (ha : SeqAt.shaped (.str a) = true) (hb : SeqAt.shaped (.str b) = true) : neD (.str a) (.str b) = some (.bool (decide (a ≠ b))) := by
  have h := eq_str ha hb
  unfold eqD at h
  unfold neD
  rw [ha, hb] at h ⊢
  have h2 : PyData.eqv (.str a) (.str b) = decide (a = b) := by
    have := Option.some.inj h
    injection this
  show some (PyData.bool (!PyData.eqv (.str a) (.str b))) = _
  rw [h2, decide_not]
theorem e_as_tuples {qs : List Itm} (b c : Bool) (hl : qs.length ≤ 1000) : F__as_tuples [rwD b c qs] = some (rwD false false qs) := by
  have k := lc_gen (it := dItems (dVar 0)) (g := dRow 3 (dGs (dName 1) (dGs (dName 2) (dGs (dName 3) dNil)))) (t := dK true) (f := dTup (dCons (dVar 1) (dCons (dVar 2) (dCons (dVar 3) (dK []))))) (vs := [1, 2, 3])
    (e := [.d (rwD b c qs), .no, .no, .no]) (e0 := [.d (rwD b c qs), .no, .no, .no]) (w := [.d (rwD b c qs), .no, .no, .no]) (L := qs) (itC c) (fun _ => true) (itC false)
    (by
      have hi := items_rw b c qs
      generalize rwD b c qs = D at *
      simp [hi]) rfl rfl rfl (by omega) fun q _ => ⟨[.d (rwD b c qs), .d (.int q.1), .d (.str q.2.1), .d (.int q.2.2)], by cases c <;> rfl, rfl, fun _ => rfl, rfl⟩
  rw [List.filter_eq_self.mpr fun _ _ => rfl] at k
  have ht : tupD [.list (qs.map (itC false))] = some (rwD false false qs) := rfl
  generalize rwD b c qs = D at *
  generalize rwD false false qs = T at *
  generalize qs.map (itC false) = L at *
  simp [F__as_tuples, fnD, m__as_tuples, init, k, ht, retD]
/-! ### ranks -/
theorem rank_step {qs : List Itm} (b c : Bool) {n : Str} {q : Itm} {m : Int} (x2 x3 : Sl) (f2 : Fr x2) (f3 : Fr x3) (s1 : SeqAt.shaped (.str q.2.1) = true) (s2 : SeqAt.shaped (.str n) = true) :
    (dRow 2 (dGs (dName 2) (dGs (dName 3) dNil))) (.tuple [.int m, itC c q]) [.d (rwD b c qs), .d (.str n), x2, x3] = some [.d (rwD b c qs), .d (.str n), .d (.int m), .d (itC c q)] ∧
    m__rank_L1 [.d (rwD b c qs), .d (.str n), .d (.int m), .d (itC c q)] = some (if q.2.1 = n then .rt (.int m) [.d (rwD b c qs), .d (.str n), .d (.int m), .d (itC c q)] else .nx [.d (rwD b c qs), .d (.str n), .d (.int m), .d (itC c q)]) := by
  have ix1 : ixD (itC c q) (.int 1) = some (.str q.2.1) := by cases c <;> rfl
  have he := eq_str s1 s2
  refine ⟨by rcases f2 with rfl | ⟨y2, rfl⟩ <;> rcases f3 with rfl | ⟨y3, rfl⟩ <;> rfl, ?_⟩
  generalize rwD b c qs = D at *
  generalize itC c q = Q at *
  by_cases w : q.2.1 = n
  · rw [decide_eq_true w] at he
    rw [if_pos w]
    simp [m__rank_L1, ix1, he]
  · rw [decide_eq_false w] at he
    rw [if_neg w]
    simp [m__rank_L1, ix1, he]
theorem rank_loop {qs : List Itm} (b c : Bool) (g : Good qs) {i : Nat} {z : Itm} (hz : qs[i]? = some z) : ∀ (suf pre : List Itm) (x2 x3 : Sl), qs = pre ++ suf → pre.length ≤ i → Fr x2 → Fr x3 → ∃ e',
    runFor (dRow 2 (dGs (dName 2) (dGs (dName 3) dNil))) m__rank_L1 (enD (pre.length : Int) (suf.map (itC c))) [.d (rwD b c qs), .d (.str z.2.1), x2, x3] = some (.rt (.int (i : Int)) e')
  | [], pre, x2, x3, e, h, _, _ => by
    have := (List.getElem?_eq_some_iff.mp hz).1
    rw [e, List.append_nil] at this
    omega
  | q :: suf, pre, x2, x3, e, h, f2, f3 => by
    have hq : qs[pre.length]? = some q := by rw [e, List.getElem?_append_right (Nat.le_refl _), Nat.sub_self]; rfl
    obtain ⟨h1, h2⟩ := rank_step (qs := qs) b c (n := z.2.1) (q := q) (m := (pre.length : Int)) x2 x3 f2 f3 (g.sh q (List.mem_of_getElem? hq)) (g.sh z (List.mem_of_getElem? hz))
    show ∃ e', runFor _ _ (.tuple [.int (pre.length : Int), itC c q] :: enD ((pre.length : Int) + 1) (suf.map (itC c))) _ = _
    by_cases w : pre.length = i
    · rw [w] at hq h1 h2 ⊢
      rw [hz] at hq
      cases hq
      rw [if_pos rfl] at h2
      exact ⟨_, runFor_cons_rt h1 h2⟩
    · have hne : q.2.1 ≠ z.2.1 := fun k => w (by
        have a1 : (qs.map fun q => q.2.1)[pre.length]? = some z.2.1 := by rw [List.getElem?_map, hq]; exact congrArg some k
        have a2 : (qs.map fun q => q.2.1)[i]? = some z.2.1 := by rw [List.getElem?_map, hz]; rfl
        exact (List.getElem?_inj (List.getElem?_eq_some_iff.mp a1).1 g.nd).mp (a1.trans a2.symm))
      rw [if_neg hne] at h2
      obtain ⟨e', ih⟩ := rank_loop b c g hz suf (pre ++ [q]) (.d (.int (pre.length : Int))) (.d (itC c q)) (by rw [e, List.append_assoc]; rfl) (by rw [List.length_append]; show _ + 1 ≤ i; omega) .d .d
      have e1 : ((pre ++ [q]).length : Int) = (pre.length : Int) + 1 := by rw [List.length_append]; rfl
      rw [e1] at ih
      exact ⟨e', by rw [runFor_cons_nx h1 h2]; exact ih⟩
theorem e_rank {qs : List Itm} (b c : Bool) (g : Good qs) {i : Nat} {z : Itm} (hz : qs[i]? = some z) : F__rank [rwD b c qs, .str z.2.1] = some (.int (i : Int)) := by
  obtain ⟨e', h⟩ := rank_loop b c g hz qs [] .no .no rfl (Nat.zero_le _) .no .no
  have h' : runFor (dRow 2 (dGs (dName 2) (dGs (dName 3) dNil))) m__rank_L1 (enD 0 (qs.map (itC c))) [.d (rwD b c qs), .d (.str z.2.1), .no, .no] = some (.rt (.int (i : Int)) e') := h
  have hi := items_rw b c qs
  generalize rwD b c qs = D at *
  generalize qs.map (itC c) = L at *
  simp [F__rank, fnD, m__rank, init, hi, h', retD]
theorem rank_none {qs : List Itm} (b c : Bool) {n : Str} (s2 : SeqAt.shaped (.str n) = true) : ∀ (suf : List Itm) (m : Int) (x2 x3 : Sl), (∀ q ∈ suf, q.2.1 ≠ n ∧ SeqAt.shaped (.str q.2.1) = true) → Fr x2 → Fr x3 → ∃ e',
    runFor (dRow 2 (dGs (dName 2) (dGs (dName 3) dNil))) m__rank_L1 (enD m (suf.map (itC c))) [.d (rwD b c qs), .d (.str n), x2, x3] = some (.nx e')
  | [], m, x2, x3, _, _, _ => ⟨_, rfl⟩
  | q :: suf, m, x2, x3, h, f2, f3 => by
    obtain ⟨n1, s1⟩ := h q (List.mem_cons_self ..)
    obtain ⟨h1, h2⟩ := rank_step (qs := qs) b c (n := n) (q := q) (m := m) x2 x3 f2 f3 s1 s2
    rw [if_neg n1] at h2
    obtain ⟨e', ih⟩ := rank_none b c s2 suf (m + 1) (.d (.int m)) (.d (itC c q)) (fun x hx => h x (List.mem_cons_of_mem _ hx)) .d .d
    refine ⟨e', ?_⟩
    show runFor _ _ (.tuple [.int m, itC c q] :: enD (m + 1) (suf.map (itC c))) _ = _
    rw [runFor_cons_nx h1 h2]
    exact ih
theorem e_rank_no {qs : List Itm} (b c : Bool) (g : Good qs) {n : Str} (s2 : SeqAt.shaped (.str n) = true) (hn : ∀ q ∈ qs, q.2.1 ≠ n) : F__rank [rwD b c qs, .str n] = some .none := by
  obtain ⟨e', h⟩ := rank_none (qs := qs) b c s2 qs 0 .no .no (fun q hq => ⟨hn q hq, g.sh q hq⟩) .no .no
  have hi := items_rw b c qs
  generalize rwD b c qs = D at *
  generalize qs.map (itC c) = L at *
  simp [F__rank, fnD, m__rank, init, hi, h, retD]
theorem e_check_name {n : Str} (h : nameB n = true) : F__check_name [.str n] = some .none := by
  have hn := e_is_name h
  simp [F__check_name, fnD, m__check_name, init, hn, retD]
theorem e_place {qs : List Itm} (b c : Bool) (g : Good qs) {i : Nat} {z : Itm} (hz : qs[i]? = some z) : F_place_of [rwD b c qs, .str z.2.1] = some (.tuple [.int (i : Int), .int ((qs.length : Int) - 1 - (i : Int))]) := by
  have hr := e_rank b c g hz
  have hc := e_check_items b c g
  have hcn := e_check_name (g.nm z (List.mem_of_getElem? hz)).1
  have hl : lenD [rwD b c qs] = some (.int (qs.length : Int)) := by
    unfold rwD
    rw [len_rows, List.length_map]
  generalize rwD b c qs = D at *
  simp [F_place_of, fnD, m_place_of, init, hr, hc, hcn, hl, setD, canSet, small, retD]
theorem e_place_no {qs : List Itm} (b c : Bool) (g : Good qs) {n : Str} (hb : nameB n = true) (s2 : SeqAt.shaped (.str n) = true) (hn : ∀ q ∈ qs, q.2.1 ≠ n) : F_place_of [rwD b c qs, .str n] = some .none := by
  have hr := e_rank_no b c g s2 hn
  have hc := e_check_items b c g
  have hcn := e_check_name hb
  generalize rwD b c qs = D at *
  simp [F_place_of, fnD, m_place_of, init, hr, hc, hcn, setD, canSet, retD]
/-! ### taken out -/
def outP (n : Str) (q : Itm) : Bool := decide (q.2.1 ≠ n)
theorem e_dropped {qs : List Itm} (b c : Bool) (g : Good qs) {i : Nat} {z : Itm} (hz : qs[i]? = some z) : F_dropped [rwD b c qs, .str z.2.1] = some (rwD false false (qs.filter (outP z.2.1))) := by
  have hr := e_rank b c g hz
  have hc := e_check_items b c g
  have ha := e_as_tuples (qs := qs) b c g.len
  have hl := g.len
  have k := lc_gen (it := dItems (dCall 1 F__as_tuples [] (dCons (dVar 0) (dK [])))) (g := dName 2) (t := dTest (dOp neD (dOp ixD (dVar 2) (dK (.int 1))) (dVar 1))) (f := dVar 2) (vs := [2])
    (e := [.d (rwD b c qs), .d (.str z.2.1), .no]) (e0 := [.d (rwD b c qs), .d (.str z.2.1), .no]) (w := [.d (rwD b c qs), .d (.str z.2.1), .no]) (L := qs) (itC false) (outP z.2.1) (itC false)
    (by
      have hi := items_rw false false qs
      generalize rwD b c qs = D at *
      generalize rwD false false qs = T at *
      simp [ha, hi]) rfl rfl rfl (by omega) fun q hq => ⟨[.d (rwD b c qs), .d (.str z.2.1), .d (itC false q)], rfl, by
        have ix1 : ixD (itC false q) (.int 1) = some (.str q.2.1) := rfl
        have hne := ne_str (g.sh q hq) (g.sh z (List.mem_of_getElem? hz))
        have hp : outP z.2.1 q = decide (q.2.1 ≠ z.2.1) := rfl
        rw [hp]
        generalize rwD b c qs = D at *
        generalize itC false q = Q at *
        generalize decide (q.2.1 ≠ z.2.1) = B at *
        simp [ix1, hne], fun _ => rfl, rfl⟩
  have ht : tupD [.list ((qs.filter (outP z.2.1)).map (itC false))] = some (rwD false false (qs.filter (outP z.2.1))) := rfl
  generalize rwD b c qs = D at *
  generalize rwD false false (qs.filter (outP z.2.1)) = T at *
  generalize (qs.filter (outP z.2.1)).map (itC false) = L at *
  simp [F_dropped, fnD, m_dropped, init, hr, hc, k, ht, retD]
end Tk
end

section
set_option Elab.async false
set_option linter.all false
set_option maxRecDepth 100000
set_option maxHeartbeats 1000000
/-! k44: entries of the dict, sorted rows (of k45), a name put in. -/
variable [Fd.Uw]
namespace Tk
open PySem PySem.Spec PyProof.Rows L2 Evl Tb Fd
/-- an entry of the dict: a name with its score and height -/
def entD (q : Itm) : PyData × PyData := (.str q.2.1, .tuple [.int q.1, .int q.2.2])
def putE (es : List Itm) (q : Itm) : List Itm := if (es.any fun x => decide (x.2.1 = q.2.1)) = true then es.map (fun x => if x.2.1 = q.2.1 then q else x) else es ++ [q]
theorem key_str (a b : Str) : keyD (.str a) = keyD (.str b) ↔ a = b := by
  constructor
  · intro h
    have h' : some (nkey (.inr a)) = some (nkey (.inr b)) := h
    have := nkey_inj (Option.some.inj h')
    cases this
    rfl
  · rintro rfl
    rfl
theorem put_ent (es : List Itm) (q : Itm) : putD (es.map entD) (.str q.2.1) (.tuple [.int q.1, .int q.2.2]) = (putE es q).map entD := by
  have h1 : ((es.map entD).any fun d => decide (keyD d.1 = keyD (.str q.2.1))) = es.any fun x => decide (x.2.1 = q.2.1) := by
    rw [List.any_map]
    congr 1
    funext x
    exact decide_eq_decide.mpr (key_str _ _)
  unfold putD putE
  rw [h1]
  split
  · rw [List.map_map, List.map_map]
    refine List.map_congr_left fun x _ => ?_
    show (if keyD (.str x.2.1) = keyD (.str q.2.1) then (PyData.str x.2.1, PyData.tuple [.int q.1, .int q.2.2]) else entD x) = entD (if x.2.1 = q.2.1 then q else x)
    by_cases c : x.2.1 = q.2.1
    · rw [if_pos ((key_str _ _).mpr c), if_pos c, c]
      rfl
    · rw [if_neg (fun z => c ((key_str _ _).mp z)), if_neg c]
  · rw [List.map_append]
    rfl
/-- entries as drawn: names once, all of them names, heights from 1 on -/
structure Ents (es : List Itm) : Prop where
  inl : ∀ q ∈ es, q.2.1 ∈ nmsL ∧ 1 ≤ q.2.2
  nd : (es.map fun q => q.2.1).Nodup
theorem ents_put {es : List Itm} (h : Ents es) {q : Itm} (h1 : q.2.1 ∈ nmsL) (h2 : 1 ≤ q.2.2) : Ents (putE es q) := by
  unfold putE
  split
  · refine ⟨fun x hx => ?_, ?_⟩
    · obtain ⟨y, hy, rfl⟩ := List.mem_map.mp hx
      split
      · exact ⟨h1, h2⟩
      · exact h.inl y hy
    · have e : ((es.map fun x => if x.2.1 = q.2.1 then q else x).map fun q => q.2.1) = es.map fun q => q.2.1 := by
        rw [List.map_map]
        refine List.map_congr_left fun x _ => ?_
        show (if x.2.1 = q.2.1 then q else x).2.1 = x.2.1
        split
        · rename_i c
          exact c.symm
        · rfl
      rw [e]
      exact h.nd
  · rename_i c
    refine ⟨fun x hx => ?_, ?_⟩
    · rcases List.mem_append.mp hx with hx | hx
      · exact h.inl x hx
      · rw [List.mem_singleton.mp hx]
        exact ⟨h1, h2⟩
    · rw [List.map_append, List.nodup_append]
      refine ⟨h.nd, by simp, fun a ha b hb => ?_⟩
      obtain ⟨x, hx, rfl⟩ := List.mem_map.mp ha
      obtain ⟨y, hy, rfl⟩ := List.mem_map.mp hb
      rw [List.mem_singleton.mp hy]
      intro z
      exact c (List.any_eq_true.mpr ⟨x, hx, decide_eq_true z⟩)
theorem putE_len (es : List Itm) (q : Itm) : (putE es q).length ≤ es.length + 1 := by
  unfold putE
  split
  · rw [List.length_map]
    omega
  · rw [List.length_append]
    exact Nat.le_refl _
theorem put_okE (es : List Itm) (q : Itm) (hl : es.length < 90000) : putQ (es.map entD) (.str q.2.1) (.tuple [.int q.1, .int q.2.2]) = some ((putE es q).map entD) := by
  unfold putQ
  rw [if_pos, put_ent]
  rw [decide_eq_true (by rw [List.length_map]; exact hl), Bool.true_and, Bool.or_eq_true]
  left
  rw [List.all_map, Bool.and_eq_true]
  exact ⟨List.all_eq_true.mpr fun _ _ => rfl, rfl⟩
theorem ix_ent {es : List Itm} (h : Ents es) {q : Itm} (hq : q ∈ es) : ixQD (.dict (es.map entD)) (.str q.2.1) = some (.tuple [.int q.1, .int q.2.2]) := by
  have hf : dfits (es.map entD) (nkey (.inr q.2.1)) = true := by
    unfold dfits
    rw [List.all_map]
    exact List.all_eq_true.mpr fun _ _ => rfl
  have hd : dfind (es.map entD) (nkey (.inr q.2.1)) = some (.tuple [.int q.1, .int q.2.2]) := by
    have nd := h.nd
    clear hf h
    induction es with
    | nil => cases hq
    | cons x es ih =>
      rw [List.map_cons, List.nodup_cons] at nd
      by_cases c : x.2.1 = q.2.1
      · have e : x = q := by
          rcases List.mem_cons.mp hq with z | z
          · exact z.symm
          · exact absurd (List.mem_map.mpr ⟨q, z, c.symm⟩) nd.1
        subst e
        unfold dfind
        rw [List.map_cons, List.find?_cons_of_pos (by exact decide_eq_true rfl)]
        rfl
      · have hm : q ∈ es := (List.mem_cons.mp hq).resolve_left fun z => c (by rw [z])
        have := ih hm nd.2
        unfold dfind at this ⊢
        rw [List.map_cons, List.find?_cons_of_neg (by
          rw [decide_eq_true_iff]
          exact fun z => c ((key_str _ _).mp z))]
        exact this
  unfold ixQD getQ
  show (match (if dfits (es.map entD) (nkey (.inr q.2.1)) = true then some (dfind (es.map entD) (nkey (.inr q.2.1))) else none) with
    | some r => r
    | none => ixD (.dict (es.map entD)) (.str q.2.1)) = _
  rw [if_pos hf, hd]
theorem e_name (t : Int × Int × Int) : ∃ n t', F__law_name (srcT t) [] = some (.str n, srcT t') ∧ n ∈ nmsL := by
  obtain ⟨n, t', h, hn⟩ := one_str t (ns := nmsL) (ds := [.str "a", .str "b", .str "c", .str "ab", .str "ba", .str "z", .str "zz", .str "abcdefgh", .str "zzzzzzzz", .str "m"]) rfl (by simp [nmsL]) (by simp [nmsL])
  exact ⟨n, t', by simp [F__law_name, fnM, m__law_name, init, dCallM, ownB, h, small], hn⟩
def unK : List Key → Itm
  | [.inl s, .inr n, .inl h] => (s, n, h)
  | _ => (0, "", 0)
theorem un_it (q : Itm) : unK (itK q) = q := rfl
def sortQ (es : List Itm) : List Itm := (sortF (es.map itK)).map unK
theorem sortF_perm' (ps : List (List Key)) : (sortF ps).Perm ps := List.mergeSort_perm ps leF
theorem sortQ_perm (es : List Itm) : (sortQ es).Perm es := by
  have := (sortF_perm' (es.map itK)).map unK
  rw [List.map_map] at this
  have e : es.map (unK ∘ itK) = es := by
    rw [show unK ∘ itK = id from rfl, List.map_id]
  rw [e] at this
  exact this
theorem sortQ_it (es : List Itm) : (sortQ es).map itK = sortF (es.map itK) := by
  unfold sortQ
  rw [List.map_map]
  refine (List.map_congr_left fun x hx => ?_).trans (List.map_id _)
  obtain ⟨q, _, rfl⟩ := List.mem_map.mp ((sortF_perm' _).mem_iff.mp hx)
  rfl
theorem kinds_it (es : List Itm) : kindsOk (es.map itK) = true := by
  cases es with
  | nil => rfl
  | cons q qs =>
    show (qs.map itK).all (fun l => decide (Flx.kinds l = [true, false, true])) = true
    rw [List.all_map, List.all_eq_true]
    intro x _
    show decide (Flx.kinds (itK x) = [true, false, true]) = true
    exact decide_eq_true rfl
theorem sorted_it (es : List Itm) : sortedVD [.list (es.map itD)] = some ((sortQ es).map itD) := by
  have e0 : (sortQ es).map itD = (sortF (es.map itK)).map flTup := by
    rw [← sortQ_it, List.map_map]
    rfl
  have e1 : es.map itD = (es.map itK).map flTup := by
    rw [List.map_map]
    rfl
  rw [e0]
  cases es with
  | nil =>
    have e1 : sortF [] = [] := by simp [sortF]
    rw [List.map_nil, List.map_nil, e1]
    simp [sortedVD, sortedUD, sortedD, intsOf, sortI]
  | cons q qs =>
    have h1 : sortedUD [.list ((q :: qs).map itD)] = none := rfl
    unfold sortedVD
    rw [h1]
    show (match flatsOf ((q :: qs).map itD) with
      | some kss => if kindsOk kss = true then some ((sortF kss).map flTup) else none
      | none => none) = _
    rw [e1, flatsOf_map]
    exact if_pos (kinds_it (q :: qs))
theorem lex_two {a b : Key} {c d : Key} {x y : Key} (h : Flx.lexK [a, b] [c, d] = true) : Flx.lexK [a, b, x] [c, d, y] = true := by
  unfold Flx.lexK at h ⊢
  by_cases e : a = c
  · rw [if_pos e] at h ⊢
    unfold Flx.lexK at h ⊢
    by_cases e2 : b = d
    · rw [if_pos e2] at h
      cases h
    · rw [if_neg e2] at h ⊢
      exact h
  · rw [if_neg e] at h ⊢
    exact h
theorem good_sort {es : List Itm} (h : Ents es) (hl : es.length ≤ 1000) : Good (sortQ es) := by
  have hp := sortQ_perm es
  have hm : ∀ q ∈ sortQ es, q.2.1 ∈ nmsL ∧ 1 ≤ q.2.2 := fun q hq => h.inl q (hp.mem_iff.mp hq)
  refine ⟨fun q hq => ⟨List.all_eq_true.mp nms_ok _ (hm q hq).1, (hm q hq).2⟩, fun q hq => (hm q hq).1, fun q hq => List.all_eq_true.mp nms_sh _ (hm q hq).1, ((hp.map fun q => q.2.1).nodup_iff).mpr h.nd, fun j p q h1 h2 => ?_, by rw [hp.length_eq]; exact hl⟩
  have hs := sortF_sorted (es.map itK)
  rw [← sortQ_it] at hs
  have l1 := (List.getElem?_eq_some_iff.mp h1)
  have l2 := (List.getElem?_eq_some_iff.mp h2)
  obtain ⟨a1, b1⟩ := l1
  obtain ⟨a2, b2⟩ := l2
  have := List.pairwise_iff_getElem.mp hs j (j + 1) (by rw [List.length_map]; exact a1) (by rw [List.length_map]; exact a2) (Nat.lt_succ_self j)
  rw [List.getElem_map, List.getElem_map, b1, b2] at this
  unfold leF at this
  cases c : Flx.lexK [.inl q.1, .inr q.2.1] [.inl p.1, .inr p.2.1] with
  | false => rfl
  | true =>
    have z := lex_two (x := .inl q.2.2) (y := .inl p.2.2) c
    have z' : Flx.lexK (itK q) (itK p) = true := z
    rw [z'] at this
    cases this
/-! ### put in -/
def pairD (q : Itm) : PyData := .tuple [.int q.1, .str q.2.1]
def atP (s : Int) (n : Str) (q : Itm) : Bool := decide (q.1 = s ∧ q.2.1 = n)
theorem eqv_pair (q : Itm) (s : Int) (n : Str) : PyData.eqv (pairD q) (.tuple [.int s, .str n]) = atP s n q := by
  unfold pairD atP
  by_cases h1 : q.1 = s <;> by_cases h2 : q.2.1 = n <;> simp [PyData.eqv, PyData.eqvAll, h1, h2]
theorem in_pairs {qs : List Itm} {s : Int} {n : Str} (hs : ∀ q ∈ qs, SeqAt.shaped (.str q.2.1) = true) (hn : SeqAt.shaped (.str n) = true) : inXD (.tuple [.int s, .str n]) (.list (qs.map pairD)) = some (.bool (qs.any (atP s n))) := by
  have k1 : SeqAt.shaped (.tuple [.int s, .str n]) = true := okE_shaped (n := 1) (by
    show ([PyData.int s, PyData.str n].all (okE 0)) = true
    simp [okE, hn]) (by decide)
  have k2 : SeqAt.shaped (.list (qs.map pairD)) = true := okE_shaped (n := 2) (by
    show ((qs.map pairD).all (okE 1)) = true
    rw [List.all_map, List.all_eq_true]
    intro q hq
    show ([PyData.int q.1, PyData.str q.2.1].all (okE 0)) = true
    simp [okE, hs q hq]) (by decide)
  have h : inD false (.tuple [.int s, .str n]) (.list (qs.map pairD)) = some (.bool (qs.any (atP s n))) := by
    show (if (SeqAt.shaped (.tuple [.int s, .str n]) && SeqAt.shaped (.list (qs.map pairD))) = true then some (PyData.bool (if false then _ else (qs.map pairD).any fun z => PyData.eqv z (.tuple [.int s, .str n]))) else none) = _
    rw [k1, k2, List.any_map]
    show some (PyData.bool (qs.any ((fun z => PyData.eqv z (.tuple [.int s, .str n])) ∘ pairD))) = _
    congr 3
    funext q
    exact eqv_pair q s n
  have h2 : inUD (.tuple [.int s, .str n]) (.list (qs.map pairD)) = inD false (.tuple [.int s, .str n]) (.list (qs.map pairD)) := rfl
  unfold inXD
  rw [h2, h]
theorem e_added {qs : List Itm} (b c : Bool) (g : Good qs) {n : Str} {s h : Int} (nb : nameB n = true) (ns : SeqAt.shaped (.str n) = true) (hh : 1 ≤ h) :
    F_added [rwD b c qs, .str n, .int s, .int h] = some (if qs.any (atP s n) = true then rwD false false qs else rwD false false (sortQ (qs.filter (outP n) ++ [(s, n, h)]))) := by
  have hc := e_check_items b c g
  have ha := e_as_tuples (qs := qs) b c g.len
  have hl := g.len
  have hcn := e_check_name nb
  have hck := e_check_key s
  have hcm : F_check_number [.int h, .int 1, .none] = some .none := by
    have h1 := e_whole_i h
    have h3 : ¬ h < 1 := by omega
    simp [F_check_number, fnD, m_check_number, init, h1, h3, retD]
  have hi := items_rw false false qs
  have k1 := lc_gen (it := dItems (dVar 4)) (g := dName 6) (t := dK true) (f := dSl (dVar 6) (dK none) (dPart (dK (.int 2)))) (vs := [6])
    (e := [.d (rwD b c qs), .d (.str n), .d (.int s), .d (.int h), .d (rwD false false qs), .no, .no]) (e0 := [.d (rwD b c qs), .d (.str n), .d (.int s), .d (.int h), .d (rwD false false qs), .no, .no]) (w := [.d (rwD b c qs), .d (.str n), .d (.int s), .d (.int h), .d (rwD false false qs), .no, .no]) (L := qs) (itC false) (fun _ => true) pairD
    (by
      generalize rwD b c qs = D at *
      generalize rwD false false qs = T at *
      simp [hi]) rfl rfl rfl (by omega) fun q _ => ⟨[.d (rwD b c qs), .d (.str n), .d (.int s), .d (.int h), .d (rwD false false qs), .no, .d (itC false q)], rfl, rfl, fun _ => by
        have two : slD (itC false q) none (some 2) = some (pairD q) := sl_two false q
        generalize rwD b c qs = D at *
        generalize rwD false false qs = T at *
        generalize itC false q = Q at *
        generalize pairD q = P at *
        simp [dSl, two], rfl⟩
  rw [List.filter_eq_self.mpr fun _ _ => rfl] at k1
  have hin := in_pairs (s := s) (n := n) (fun q hq => g.sh q hq) ns
  have k2 := lc_gen (it := dItems (dVar 4)) (g := dName 6) (t := dTest (dOp neD (dOp ixD (dVar 6) (dK (.int 1))) (dVar 1))) (f := dVar 6) (vs := [6])
    (e := [.d (rwD b c qs), .d (.str n), .d (.int s), .d (.int h), .d (rwD false false qs), .no, .no]) (e0 := [.d (rwD b c qs), .d (.str n), .d (.int s), .d (.int h), .d (rwD false false qs), .no, .no]) (w := [.d (rwD b c qs), .d (.str n), .d (.int s), .d (.int h), .d (rwD false false qs), .no, .no]) (L := qs) (itC false) (outP n) (itC false)
    (by
      generalize rwD b c qs = D at *
      generalize rwD false false qs = T at *
      simp [hi]) rfl rfl rfl (by omega) fun q hq => ⟨[.d (rwD b c qs), .d (.str n), .d (.int s), .d (.int h), .d (rwD false false qs), .no, .d (itC false q)], rfl, by
        have ix1 : ixD (itC false q) (.int 1) = some (.str q.2.1) := rfl
        have hne := ne_str (g.sh q hq) ns
        have hp : outP n q = decide (q.2.1 ≠ n) := rfl
        rw [hp]
        generalize rwD b c qs = D at *
        generalize rwD false false qs = T at *
        generalize itC false q = Q at *
        generalize decide (q.2.1 ≠ n) = B at *
        simp [ix1, hne], fun _ => rfl, rfl⟩
  have hadd : addD (.list ((qs.filter (outP n)).map (itC false))) (.list [.tuple [.int s, .str n, .int h]]) = some (.list ((qs.filter (outP n) ++ [(s, n, h)]).map itD)) := by
    have z := List.length_filter_le (outP n) qs
    show (if ((qs.filter (outP n)).map (itC false)).length + 1 ≤ 100000 then _ else none) = _
    rw [if_pos (by rw [List.length_map]; omega), List.map_append]
    rfl
  have hso := sorted_it (qs.filter (outP n) ++ [(s, n, h)])
  have ht : tupD [.list ((sortQ (qs.filter (outP n) ++ [(s, n, h)])).map itD)] = some (rwD false false (sortQ (qs.filter (outP n) ++ [(s, n, h)]))) := rfl
  generalize rwD b c qs = D at *
  generalize rwD false false (sortQ (qs.filter (outP n) ++ [(s, n, h)])) = R at *
  generalize rwD false false qs = T at *
  generalize (sortQ (qs.filter (outP n) ++ [(s, n, h)])).map itD = L3 at *
  generalize (qs.filter (outP n) ++ [(s, n, h)]).map itD = L2 at *
  generalize (qs.filter (outP n)).map (itC false) = L1 at *
  generalize qs.map pairD = L0 at *
  generalize qs.any (atP s n) = B at *
  cases B
  · rw [if_neg Bool.false_ne_true]
    simp [F_added, fnD, m_added, init, hc, hcn, hck, hcm, ha, k1, hin, k2, hadd, hso, ht, setD, canSet, small, retD]
  · rw [if_pos rfl]
    simp [F_added, fnD, m_added, init, hc, hcn, hck, hcm, ha, k1, hin, setD, canSet, small, retD]
end Tk
end

section
set_option Elab.async false
set_option linter.all false
set_option maxRecDepth 100000
set_option maxHeartbeats 1000000
/-! k44: what is due; rows and dicts go together. -/
variable [Fd.Uw]
namespace Tk
open PySem PySem.Spec PyProof.Rows L2 Evl Tb Fd
theorem sortQ_of {qs ps : List Itm} (h1 : (qs.map itK).Pairwise fun x y => leF x y = true) (h2 : qs.Perm ps) : qs = sortQ ps := by
  have e := sortF_of h1 (h2.map itK)
  unfold sortQ
  rw [← e, List.map_map]
  exact (List.map_id' _).symm
theorem sortQ_sorted (es : List Itm) : ((sortQ es).map itK).Pairwise fun x y => leF x y = true := by
  rw [sortQ_it]
  exact sortF_sorted _
theorem sortQ_perm2 {xs ys : List Itm} (h : xs.Perm ys) : sortQ xs = sortQ ys := sortQ_of (sortQ_sorted xs) ((sortQ_perm xs).trans h)
theorem sortQ_filter (P : Itm → Bool) (es : List Itm) : (sortQ es).filter P = sortQ (es.filter P) :=
  sortQ_of ((sortQ_sorted es).sublist (List.filter_sublist.map itK)) ((sortQ_perm es).filter P)
theorem any_sortQ (P : Itm → Bool) (es : List Itm) : (sortQ es).any P = es.any P := by
  rw [Bool.eq_iff_iff, List.any_eq_true, List.any_eq_true]
  constructor
  · rintro ⟨q, h1, h2⟩
    exact ⟨q, (sortQ_perm es).mem_iff.mp h1, h2⟩
  · rintro ⟨q, h1, h2⟩
    exact ⟨q, (sortQ_perm es).mem_iff.mpr h1, h2⟩
theorem putE_perm {q : Itm} : ∀ {es : List Itm}, (es.map fun x => x.2.1).Nodup → (putE es q).Perm (es.filter (outP q.2.1) ++ [q])
  | [], _ => .refl _
  | x :: es, nd => by
    rw [List.map_cons, List.nodup_cons] at nd
    by_cases c : x.2.1 = q.2.1
    · have all : ∀ y ∈ es, y.2.1 ≠ q.2.1 := fun y hy z => nd.1 (List.mem_map.mpr ⟨y, hy, z.trans c.symm⟩)
      have e1 : (es.map fun x => if x.2.1 = q.2.1 then q else x) = es := by
        refine (List.map_congr_left fun y hy => ?_).trans (List.map_id' es)
        rw [if_neg (all y hy)]
      have e2 : es.filter (outP q.2.1) = es := List.filter_eq_self.mpr fun y hy => decide_eq_true (all y hy)
      unfold putE
      rw [if_pos (by rw [List.any_cons, decide_eq_true c, Bool.true_or]), List.map_cons, if_pos c, e1, List.filter_cons, if_neg (by unfold outP; simp [c]), e2]
      exact (List.perm_append_singleton q es).symm
    · have ih := putE_perm (q := q) nd.2
      have e3 : outP q.2.1 x = true := decide_eq_true c
      rw [List.filter_cons, if_pos e3]
      unfold putE at ih ⊢
      rw [List.any_cons, decide_eq_false c, Bool.false_or]
      split
      · rename_i h
        rw [if_pos h] at ih
        rw [List.map_cons, if_neg c]
        exact ih.cons x
      · rename_i h
        rw [if_neg h] at ih
        exact ih.cons x
theorem put_row {es : List Itm} (h : Ents es) (q : Itm) : sortQ ((sortQ es).filter (outP q.2.1) ++ [q]) = sortQ (putE es q) :=
  sortQ_perm2 ((((sortQ_perm es).filter _).append_right _).trans (putE_perm h.nd).symm)
theorem ents_out {es : List Itm} (h : Ents es) (n : Str) : Ents (es.filter (outP n)) :=
  ⟨fun q hq => h.inl q (List.mem_filter.mp hq).1, h.nd.sublist (List.filter_sublist.map _)⟩
theorem drop_ent (es : List Itm) (n : Str) : dropD (es.map entD) (.str n) = (es.filter (outP n)).map entD := by
  unfold dropD
  rw [List.filter_map]
  congr 1
  refine List.filter_congr fun q _ => ?_
  show decide (keyD (.str q.2.1) ≠ keyD (.str n)) = decide (q.2.1 ≠ n)
  exact decide_eq_decide.mpr (not_congr (key_str _ _))
def hasN (es : List Itm) (n : Str) : Bool := es.any fun q => decide (q.2.1 = n)
theorem has_ent (es : List Itm) (n : Str) : Fd.hasD (es.map entD) (.str n) = hasN es n := by
  unfold Fd.hasD hasN
  rw [List.any_map]
  congr 1
  funext q
  exact decide_eq_decide.mpr (key_str _ _)
theorem get_ent (es : List Itm) (n : Str) : ∃ r, getQ (.dict (es.map entD)) (.str n) = some r ∧ r.isSome = hasN es n := by
  have hf : dfits (es.map entD) (nkey (.inr n)) = true := by
    unfold dfits
    rw [List.all_map]
    exact List.all_eq_true.mpr fun _ _ => rfl
  refine ⟨dfind (es.map entD) (nkey (.inr n)), ?_, ?_⟩
  · show (if dfits (es.map entD) (nkey (.inr n)) = true then some (dfind (es.map entD) (nkey (.inr n))) else none) = _
    rw [if_pos hf]
  · unfold dfind hasN
    rw [Option.isSome_map, Bool.eq_iff_iff, List.find?_isSome, List.any_eq_true]
    constructor
    · rintro ⟨d, hd, hk⟩
      obtain ⟨q, hq, rfl⟩ := List.mem_map.mp hd
      exact ⟨q, hq, decide_eq_true ((key_str q.2.1 n).mp (of_decide_eq_true hk))⟩
    · rintro ⟨q, hq, hk⟩
      exact ⟨entD q, List.mem_map.mpr ⟨q, hq, rfl⟩, decide_eq_true ((key_str q.2.1 n).mpr (of_decide_eq_true hk))⟩
theorem in_ent (es : List Itm) (n : Str) : inQD (.str n) (.dict (es.map entD)) = some (.bool (hasN es n)) := by
  obtain ⟨r, h1, h2⟩ := get_ent es n
  unfold inQD
  rw [h1]
  show some (PyData.bool r.isSome) = _
  rw [h2]
theorem notIn_ent (es : List Itm) (n : Str) : notInQD (.str n) (.dict (es.map entD)) = some (.bool (!hasN es n)) := by
  obtain ⟨r, h1, h2⟩ := get_ent es n
  unfold notInQD
  rw [h1]
  show some (PyData.bool (!r.isSome)) = _
  rw [h2]
theorem e_due {es : List Itm} (h : Ents es) (hl : es.length ≤ 1000) : F__law_due [.dict (es.map entD)] = some (rwD false false (sortQ es)) := by
  have hlc := lc_gen (it := dKeysR 0) (g := dName 1) (t := dK true) (f := dTup (dCons (dOp ixD (dOp ixQD (dVar 0) (dVar 1)) (dK (.int 0))) (dCons (dVar 1) (dCons (dOp ixD (dOp ixQD (dVar 0) (dVar 1)) (dK (.int 1))) (dK []))))) (vs := [1])
    (e := [.d (.dict (es.map entD)), .no]) (e0 := [.d (.dict (es.map entD)), .no]) (w := [.d (.dict (es.map entD)), .no]) (L := es) (fun q => .str q.2.1) (fun _ => true) itD
    (by
      unfold dKeysR
      show (if (es.map entD).all (fun d => (keyI d.1).isSome) = true then some ((es.map entD).map (·.1), _) else none) = _
      rw [if_pos (by
        rw [List.all_map]
        exact List.all_eq_true.mpr fun _ _ => rfl), List.map_map]
      rfl) rfl rfl rfl (by omega) fun q hq => ⟨[.d (.dict (es.map entD)), .d (.str q.2.1)], rfl, rfl, fun _ => by
      have hix := ix_ent h hq
      have i0 : ixD (.tuple [.int q.1, .int q.2.2]) (.int 0) = some (.int q.1) := rfl
      have i1 : ixD (.tuple [.int q.1, .int q.2.2]) (.int 1) = some (.int q.2.2) := rfl
      generalize es.map entD = D at *
      unfold itD
      simp [hix, i0, i1, small], rfl⟩
  rw [List.filter_eq_self.mpr fun _ _ => rfl] at hlc
  have hs := sorted_it es
  have ht : tupD [.list ((sortQ es).map itD)] = some (rwD false false (sortQ es)) := rfl
  generalize rwD false false (sortQ es) = R at *
  generalize (sortQ es).map itD = L2 at *
  generalize es.map itD = L at *
  generalize es.map entD = D at *
  simp [F__law_due, fnD, m__law_due, init, hlc, hs, ht, retD]
end Tk
end

section
set_option Elab.async false
set_option linter.all false
set_option maxRecDepth 100000
set_option maxHeartbeats 1000000
/-! k44: places. -/
variable [Fd.Uw]
namespace Tk
open PySem PySem.Spec PyProof.Rows L2 Evl Tb Fd
theorem strsOf_map : ∀ l : List Str, strsOf (l.map .str) = some l
  | [] => rfl
  | x :: l => by
    show (strsOf (l.map .str)).map (x :: ·) = _
    rw [strsOf_map l]
    rfl
theorem idxS_mem (x : Str) : ∀ {l : List Str}, x ∈ l → ∃ i, idxS x l = some i
  | [], h => nomatch h
  | y :: l, h => by
    unfold idxS
    by_cases c : y = x
    · exact ⟨0, if_pos c⟩
    · obtain ⟨i, hi⟩ := idxS_mem x ((List.mem_cons.mp h).resolve_left fun z => c z.symm)
      exact ⟨i + 1, by rw [if_neg c, hi]; rfl⟩
theorem in_strs {l : List Str} {x : Str} (hs : ∀ y ∈ l, SeqAt.shaped (.str y) = true) (hx : SeqAt.shaped (.str x) = true) : inXD (.str x) (.list (l.map .str)) = some (.bool (decide (x ∈ l))) := by
  have k2 : SeqAt.shaped (.list (l.map .str)) = true := okE_shaped (n := 1) (by
    show ((l.map PyData.str).all (okE 0)) = true
    rw [List.all_map, List.all_eq_true]
    exact fun y hy => hs y hy) (by decide)
  have h : inD false (.str x) (.list (l.map .str)) = some (.bool (decide (x ∈ l))) := by
    show (if (SeqAt.shaped (.str x) && SeqAt.shaped (.list (l.map .str))) = true then some (PyData.bool (if false then _ else (l.map PyData.str).any fun z => PyData.eqv z (.str x))) else none) = _
    rw [hx, k2, List.any_map]
    show some (PyData.bool (l.any ((fun z => PyData.eqv z (.str x)) ∘ PyData.str))) = _
    congr 2
    rw [Bool.eq_iff_iff, List.any_eq_true, decide_eq_true_iff]
    constructor
    · rintro ⟨y, h1, h2⟩
      have : y = x := by simpa [PyData.eqv] using h2
      exact this ▸ h1
    · exact fun h => ⟨x, h, by simp [PyData.eqv]⟩
  have h2 : inUD (.str x) (.list (l.map .str)) = inD false (.str x) (.list (l.map .str)) := rfl
  unfold inXD
  rw [h2, h]
theorem lc_namesD {D0 D1 : PyData} {qs : List Itm} (hl : qs.length ≤ 1000) (hd : F__law_due [D1] = some (rwD false false qs)) :
    dLc (dItems (dCall 1 F__law_due [] (dCons (dVar 1) (dK [])))) (dRow 3 (dGs (dName 5) (dGs (dName 2) (dGs (dName 6) dNil)))) (dK true) (dVar 2) [5, 2, 6] [.d D0, .d D1, .no, .no, .no, .no, .no] = some ((qs.map fun q => q.2.1).map .str, [.d D0, .d D1, .no, .no, .no, .no, .no]) := by
  have k := lc_gen (it := dItems (dCall 1 F__law_due [] (dCons (dVar 1) (dK [])))) (g := dRow 3 (dGs (dName 5) (dGs (dName 2) (dGs (dName 6) dNil)))) (t := dK true) (f := dVar 2) (vs := [5, 2, 6])
    (e := [.d D0, .d D1, .no, .no, .no, .no, .no]) (e0 := [.d D0, .d D1, .no, .no, .no, .no, .no]) (w := [.d D0, .d D1, .no, .no, .no, .no, .no]) (L := qs) (itC false) (fun _ => true) (fun q => .str q.2.1)
    (by
      have hi := items_rw false false qs
      generalize rwD false false qs = T at *
      simp [hd, hi]) rfl rfl rfl (by omega) fun q _ => ⟨[.d D0, .d D1, .d (.str q.2.1), .no, .no, .d (.int q.1), .d (.int q.2.2)], rfl, rfl, fun _ => rfl, rfl⟩
  rw [List.filter_eq_self.mpr fun _ _ => rfl] at k
  rw [k, List.map_map]
  rfl
theorem place_turn {qs : List Itm} (g : Good qs) (D1 : PyData) {n : Str} (nb : nameB n = true) (ns : SeqAt.shaped (.str n) = true) (x4 : Sl) (f4 : frB x4 = true) : ∃ y4, frB y4 = true ∧
    m__law_places_right_L1 [.d (rwD false false qs), .d D1, .d (.str n), .d (.list ((qs.map fun q => q.2.1).map .str)), x4, .no, .no] = some (.nx [.d (rwD false false qs), .d D1, .d (.str n), .d (.list ((qs.map fun q => q.2.1).map .str)), y4, .no, .no]) := by
  have hin := in_strs (l := qs.map fun q => q.2.1) (x := n) (fun y hy => by
    obtain ⟨q, hq, rfl⟩ := List.mem_map.mp hy
    exact g.sh q hq) ns
  by_cases c : n ∈ qs.map fun q => q.2.1
  · obtain ⟨i, hi⟩ := idxS_mem n c
    obtain ⟨a, _⟩ := idxS_at n hi
    rw [List.getElem?_map] at a
    obtain ⟨z, hz, rfl⟩ := Option.map_eq_some_iff.mp a
    have hp := e_place false false g hz
    have hx : idxSD ((qs.map fun q => q.2.1).map .str) [.str z.2.1] = some (.int (i : Int)) := by
      show (match strsOf ((qs.map fun q => q.2.1).map .str) with
        | some ss => (idxS z.2.1 ss).map fun (j : Nat) => PyData.int (j : Int)
        | none => none) = _
      rw [strsOf_map]
      show (idxS z.2.1 (qs.map fun q => q.2.1)).map (fun (j : Nat) => PyData.int (j : Int)) = _
      rw [hi]
      rfl
    have hlen : lenD [.list ((qs.map fun q => q.2.1).map .str)] = some (.int (qs.length : Int)) := by
      rw [Fd.len_list, List.length_map, List.length_map]
    have hne : neD (.tuple [.int (i : Int), .int ((qs.length : Int) - 1 - (i : Int))]) (.tuple [.int (i : Int), .int ((qs.length : Int) - 1 - (i : Int))]) = some (.bool false) := neE_same 1 rfl (by decide)
    rw [decide_eq_true c] at hin
    refine ⟨.d (.tuple [.int (i : Int), .int ((qs.length : Int) - 1 - (i : Int))]), rfl, ?_⟩
    generalize rwD false false qs = D at *
    generalize (qs.map fun q => q.2.1).map PyData.str = L at *
    generalize (qs.length : Int) = m at *
    generalize (i : Int) = k at *
    simp [m__law_places_right_L1, hin, dMt, hx, hlen, small, setD, canSet_fr, f4, hp, hne]
  · have hp := e_place_no false false g nb ns fun q hq z => c (List.mem_map.mpr ⟨q, hq, z⟩)
    have hne : neD .none .none = some (.bool false) := neE_same 0 rfl (by decide)
    rw [decide_eq_false c] at hin
    refine ⟨.d .none, rfl, ?_⟩
    generalize rwD false false qs = D at *
    generalize (qs.map fun q => q.2.1).map PyData.str = L at *
    simp [m__law_places_right_L1, hin, setD, canSet_fr, f4, hp, hne]
def elevenL : List Str := ["a", "b", "c", "ab", "ba", "z", "zz", "abcdefgh", "zzzzzzzz", "m", "y"]
theorem eleven_ok : elevenL.all (fun n => nameB n && SeqAt.shaped (.str n)) = true := by decide +kernel
theorem y_new : ("y" : Str) ∉ nmsL := by decide +kernel
theorem place_loop {qs : List Itm} (g : Good qs) (D1 : PyData) : ∀ (l : List Str), (∀ n ∈ l, n ∈ elevenL) → ∀ (x2 x4 : Sl), frB x2 = true → frB x4 = true → ∃ y2 y4, frB y2 = true ∧ frB y4 = true ∧
    runFor (dName 2) m__law_places_right_L1 (l.map .str) [.d (rwD false false qs), .d D1, x2, .d (.list ((qs.map fun q => q.2.1).map .str)), x4, .no, .no] = some (.nx [.d (rwD false false qs), .d D1, y2, .d (.list ((qs.map fun q => q.2.1).map .str)), y4, .no, .no])
  | [], _, x2, x4, f2, f4 => ⟨x2, x4, f2, f4, rfl⟩
  | n :: l, h, x2, x4, f2, f4 => by
    have ok := List.all_eq_true.mp eleven_ok n (h n (List.mem_cons_self ..))
    rw [Bool.and_eq_true] at ok
    obtain ⟨y4, g4, k⟩ := place_turn g D1 ok.1 ok.2 x4 f4
    obtain ⟨z2, z4, m2, m4, ih⟩ := place_loop g D1 l (fun x hx => h x (List.mem_cons_of_mem _ hx)) (.d (.str n)) y4 rfl g4
    refine ⟨z2, z4, m2, m4, ?_⟩
    rw [List.map_cons, runFor_cons_nx (e1 := [.d (rwD false false qs), .d D1, .d (.str n), .d (.list ((qs.map fun q => q.2.1).map .str)), x4, .no, .no]) (by simp [setD, canSet_fr, f2]) k, ih]
theorem e_places {qs : List Itm} (g : Good qs) {D1 : PyData} (hd : F__law_due [D1] = some (rwD false false qs)) : F__law_places_right [rwD false false qs, D1] = some (.bool true) := by
  have h1 := lc_namesD (D0 := rwD false false qs) g.len hd
  obtain ⟨y2, y4, f2, f4, h2⟩ := place_loop g D1 elevenL (fun _ h => h) .no .no rfl rfl
  have h3 := e_is_scored false false g
  have ok := List.all_eq_true.mp eleven_ok "y" (by simp [elevenL])
  rw [Bool.and_eq_true] at ok
  have h4 := e_place_no true false g ok.1 ok.2 fun q hq z => y_new (z ▸ g.inl q hq)
  have h5 : lstD [rwD false false qs] = some (qs.map (itC false)) := rfl
  have h6 : PyData.list (qs.map (itC false)) = rwD true false qs := rfl
  have el : ([.str "a", .str "b", .str "c", .str "ab", .str "ba", .str "z", .str "zz", .str "abcdefgh", .str "zzzzzzzz", .str "m", .str "y"] : List PyData) = elevenL.map .str := rfl
  have h7 : itemsOf (.list (elevenL.map .str)) = some (elevenL.map .str) := rfl
  have a1 : sAsg (dFz (dLc (dItems (dCall 1 F__law_due [] (dCons (dVar 1) (dK [])))) (dRow 3 (dGs (dName 5) (dGs (dName 2) (dGs (dName 6) dNil)))) (dK true) (dVar 2) [5, 2, 6])) (dName 3) [.d (rwD false false qs), .d D1, .no, .no, .no, .no, .no] = some (.nx [.d (rwD false false qs), .d D1, .no, .d (.list ((qs.map fun q => q.2.1).map .str)), .no, .no, .no]) := by
    generalize rwD false false qs = D at *
    generalize (qs.map fun q => q.2.1).map PyData.str = L at *
    simp [h1, setD, canSet]
  unfold F__law_places_right fnD m__law_places_right
  rw [show init [rwD false false qs, D1] 5 = [.d (rwD false false qs), .d D1, .no, .no, .no, .no, .no] from rfl, seq_nx a1]
  generalize hB : m__law_places_right_L1 = B at *
  generalize rwD false false qs = D at *
  generalize rwD true false qs = D2 at *
  generalize qs.map (itC false) = LL at *
  generalize (qs.map fun q => q.2.1).map PyData.str = L at *
  rw [seq_nx (e1 := [.d D, .d D1, y2, .d (.list L), y4, .no, .no]) (by
    rw [← el] at h2 h7
    generalize elevenL = EL at *
    simp [small, h7, h2])]
  simp [h3, h4, h5, h6, retD]
end Tk
end

section
set_option Elab.async false
set_option linter.all false
set_option maxRecDepth 100000
set_option maxHeartbeats 1000000
/-! k44: one turn of the law. -/
variable [Fd.Uw]
namespace Tk
open PySem PySem.Spec PyProof.Rows L2 Evl Tb Fd
abbrev vE (x0 : Sl) (n : Int) (W : List PyData) (T : PyData) (D : List (PyData × PyData)) (x5 x6 x7 x10 x11 : Sl) : En := [x0, .d (.int n), .o W, .d T, .q D, x5, x6, x7, .no, .no, x10, x11]
theorem lf_rw (qs : List Itm) : lf (rwD false false qs) = true := by
  show (qs.map (itC false)).all (lfN 2) = true
  rw [List.all_map]
  exact List.all_eq_true.mpr fun _ _ => rfl
theorem lf_src (t : Int × Int × Int) : (srcT t).all lf = true := rfl
theorem lf_ents (es : List Itm) : (es.map entD).all (fun d => (keyI d.1).isSome && lf d.2) = true := by
  rw [List.all_map]
  exact List.all_eq_true.mpr fun _ _ => rfl
theorem pair_it {qs : List Itm} (hl : qs.length ≤ 1000) : pairRows (qs.map (itC true)) = true := by
  unfold pairRows
  rw [decide_eq_true (by rw [List.length_map]; omega), Bool.true_and, List.all_map]
  exact List.all_eq_true.mpr fun _ _ => rfl
theorem lfs_fr {x : Sl} (h : frB x = true) : frB (lfs x) = true := by
  cases x with
  | no => rfl
  | d y =>
    simp only [lfs]
    split <;> rfl
  | o y =>
    simp only [lfs]
    split <;> rfl
  | q y =>
    simp only [lfs]
    split <;> rfl
  | u y => rfl
  | p y => cases h
theorem okP_fr {x : Sl} (h : frB x = true) : (match x with
    | .p xs => xs.all lf
    | _ => true) = true := by
  cases x <;> first | rfl | cases h
theorem lcL {qs : List Itm} (hl : qs.length ≤ 1000) {x0 : Sl} {n : Int} {W : List PyData} {D : List (PyData × PyData)} {x5 x6 x7 x10 x11 : Sl} :
    dLc (dItems (dVar 3)) (dName 8) (dK true) (dFz (dLstV 8)) [8] (vE x0 n W (rwD false false qs) D x5 x6 x7 x10 x11) = some (qs.map (itC true), vE x0 n W (rwD false false qs) D x5 x6 x7 x10 x11) := by
  have k := lc_gen (it := dItems (dVar 3)) (g := dName 8) (t := dK true) (f := dFz (dLstV 8)) (vs := [8])
    (e := vE x0 n W (rwD false false qs) D x5 x6 x7 x10 x11) (e0 := vE x0 n W (rwD false false qs) D x5 x6 x7 x10 x11) (w := vE x0 n W (rwD false false qs) D x5 x6 x7 x10 x11) (L := qs) (itC false) (fun _ => true) (itC true)
    (by
      have hi := items_rw false false qs
      generalize rwD false false qs = T at *
      simp [hi]) rfl rfl rfl (by omega) fun q _ => ⟨[x0, .d (.int n), .o W, .d (rwD false false qs), .q D, x5, x6, x7, .d (itC false q), .no, x10, x11], rfl, rfl, fun _ => by
        have h1 : lstD [itC false q] = some [.int q.1, .str q.2.1, .int q.2.2] := rfl
        have h2 : itC true q = .list [.int q.1, .str q.2.1, .int q.2.2] := rfl
        rw [h2]
        generalize rwD false false qs = T at *
        generalize itC false q = Q at *
        simp [dLstV, ownL, dCbL, h1], rfl⟩
  rw [List.filter_eq_self.mpr fun _ _ => rfl] at k
  exact k
section
variable {x0 : Sl} {c : Int} {es : List Itm} {x5 x6 x7 x10 x11 : Sl}
/-- the name is there: it is taken out -/
theorem p_out (f5 : frB x5 = true) (f10 : frB x10 = true) (f11 : frB x11 = true) (f0 : frB x0 = true) (h : Ents es) (hl : es.length ≤ 1000) (t : Int × Int × Int) {n : Str} (hn : hasN es n = true) {T7 : PyData} (h7 : lf T7 = true) :
    sSeq (sFree (dLc (dItems (dVar 3)) (dName 8) (dK true) (dFz (dLstV 8)) [8]) 9 8 (sAsg (dCall 2 F_dropped [] (dCons (dVar 9) (dCons (dVar 6) (dK [])))) (dName 3))) (sPopQ 4 (dVar 6))
      (vE x0 c (srcT t) (rwD false false (sortQ es)) (es.map entD) x5 (.d (.str n)) (.d T7) x10 x11) =
    some (.nx (vE (lfs x0) c (srcT t) (rwD false false (sortQ (es.filter (outP n)))) ((es.filter (outP n)).map entD) (lfs x5) (.d (.str n)) (.d T7) (lfs x10) (lfs x11))) := by
  have g := good_sort h hl
  obtain ⟨q, hq, hqn⟩ := List.any_eq_true.mp hn
  have hqn := of_decide_eq_true hqn
  subst hqn
  obtain ⟨i, hi⟩ := List.mem_iff_getElem?.mp ((sortQ_perm es).mem_iff.mpr hq)
  have hd := e_dropped true true g hi
  rw [sortQ_filter] at hd
  have hL := lcL (qs := sortQ es) g.len (x0 := x0) (n := c) (W := srcT t) (D := es.map entD) (x5 := x5) (x6 := .d (.str q.2.1)) (x7 := .d T7) (x10 := x10) (x11 := x11)
  have hp := pair_it (qs := sortQ es) g.len
  have l1 := lf_rw (sortQ (es.filter (outP q.2.1)))
  have l2 := lf_src t
  have l3 := lf_ents es
  have hpo := drop_ent es q.2.1
  have hha := has_ent es q.2.1
  rw [hn] at hha
  have hke : (es.map entD).all (fun d => (keyI d.1).isSome) = true := by
    rw [List.all_map]
    exact List.all_eq_true.mpr fun _ _ => rfl
  have hem : (es.map entD).isEmpty = false := by
    cases es with
    | nil => cases hq
    | cons _ _ => rfl
  have hrw : PyData.list ((sortQ es).map (itC true)) = rwD true true (sortQ es) := rfl
  have lq : lf (.str q.2.1) = true := rfl
  have lc : lf (.int c) = true := rfl
  have a1 : sFree (dLc (dItems (dVar 3)) (dName 8) (dK true) (dFz (dLstV 8)) [8]) 9 8 (sAsg (dCall 2 F_dropped [] (dCons (dVar 9) (dCons (dVar 6) (dK [])))) (dName 3)) (vE x0 c (srcT t) (rwD false false (sortQ es)) (es.map entD) x5 (.d (.str q.2.1)) (.d T7) x10 x11) =
      some (.nx (vE (lfs x0) c (srcT t) (rwD false false (sortQ (es.filter (outP q.2.1)))) (es.map entD) (lfs x5) (.d (.str q.2.1)) (.d T7) (lfs x10) (lfs x11))) := by
    unfold sFree
    rw [hL]
    simp only []
    rw [hrw]
    unfold vE
    generalize rwD true true (sortQ es) = R at *
    generalize rwD false false (sortQ (es.filter (outP q.2.1))) = R2 at *
    generalize rwD false false (sortQ es) = R3 at *
    generalize (sortQ es).map (itC true) = RL at *
    generalize srcT t = W at *
    generalize es.map entD = D at *
    simp [setD, canSet, hd, hp, okP, lfs, l1, l2, l3, h7, lq, lc]
    refine ⟨?_, ?_, ?_, ?_⟩
    · cases x0 <;> first | rfl | cases f0
    · cases x5 <;> first | rfl | cases f5
    · cases x10 <;> first | rfl | cases f10
    · cases x11 <;> first | rfl | cases f11
  rw [seq_nx a1]
  unfold vE
  generalize rwD false false (sortQ (es.filter (outP q.2.1))) = R2 at *
  generalize srcT t = W at *
  rw [← hpo]
  generalize es.map entD = D at *
  have hk : (keyI (.str q.2.1)).isSome = true := rfl
  unfold sPopQ
  simp [hem, hke, hha, hk]
/-- a score is given -/
def isAt (es : List Itm) (s : Int) (n : Str) : Bool := es.any (atP s n)
theorem p_put (f10 : frB x10 = true) (f11 : frB x11 = true) (f5 : frB x5 = true) (h : Ents es) (hl : es.length ≤ 900) (t : Int × Int × Int) {n : Str} (hn : n ∈ nmsL) {T7 : PyData} : ∃ t' es' y10 y11, Ents es' ∧ es'.length ≤ es.length + 1 ∧ frB y10 = true ∧ frB y11 = true ∧
    (sSeq (sPar (dCons (dCallM 2 2 F__law_one (dCons (dFz (dLst (dCons (dK (.int 0)) (dCons (dK (.int 0)) (dCons (dK (.int 1)) (dCons (dUn negD (dK (.int 1))) (dCons (dK (.int 7)) (dCons (dOp powD (dK (.int 10)) (dK (.int 29))) (dK []))))))))) (dK []))) (dCons (dOp addD (dK (.int 1)) (dCallM 2 2 F__law_draw (dCons (dK (.int 5)) (dK [])))) (dK []))) [10, 11])
    (sSeq (sAsg (dCall 4 F_added [] (dCons (dFz (dLc (dItems (dVar 3)) (dName 8) (dK true) (dFz (dLstV 8)) [8])) (dCons (dVar 6) (dCons (dVar 10) (dCons (dVar 11) (dK [])))))) (dName 3))
    (sIf (dOrT (dTest (dBor (dOp notInQD (dVar 6) (dVar 4)))) (dTest (dBor (dOp neD (dOp ixD (dOp ixQD (dVar 4) (dVar 6)) (dK (.int 0))) (dVar 10)))))
    (sSetQ 4 (dTup (dCons (dVar 10) (dCons (dVar 11) (dK [])))) (dVar 6))
    (fun e => some (.nx e)))))
      (vE x0 c (srcT t) (rwD false false (sortQ es)) (es.map entD) x5 (.d (.str n)) (.d T7) x10 x11) =
    some (.nx (vE x0 c (srcT t') (rwD false false (sortQ es')) (es'.map entD) x5 (.d (.str n)) (.d T7) y10 y11)) := by
  have g := good_sort h (by omega)
  obtain ⟨s, t1, h1, _⟩ := e_oneD t (xs := [0, 0, 1, -1, 7, 10 ^ 29]) (ds := [.int 0, .int 0, .int 1, .int (-1), .int 7, .int (10 ^ 29)]) rfl (by simp) (by simp)
  obtain ⟨r, t2, h2, r0, _⟩ := e_draw t1 (m := 5) (by decide) (by decide)
  have hp : powD (.int 10) (.int 29) = some (.int ((10 : Int) ^ 29)) := powD_ok (i := 10) (j := 29) ⟨by decide, by decide, by decide⟩
  have nb := List.all_eq_true.mp nms_ok _ hn
  have ns := List.all_eq_true.mp nms_sh _ hn
  have ha := e_added (h := 1 + r) true true g (s := s) nb ns (by omega)
  rw [any_sortQ] at ha
  have hL := fun W x10 x11 => lcL (qs := sortQ es) g.len (x0 := x0) (n := c) (W := W) (D := es.map entD) (x5 := x5) (x6 := .d (.str n)) (x7 := .d T7) (x10 := x10) (x11 := x11)
  have hrw : PyData.list ((sortQ es).map (itC true)) = rwD true true (sortQ es) := rfl
  have a1 : sPar (dCons (dCallM 2 2 F__law_one (dCons (dFz (dLst (dCons (dK (.int 0)) (dCons (dK (.int 0)) (dCons (dK (.int 1)) (dCons (dUn negD (dK (.int 1))) (dCons (dK (.int 7)) (dCons (dOp powD (dK (.int 10)) (dK (.int 29))) (dK []))))))))) (dK []))) (dCons (dOp addD (dK (.int 1)) (dCallM 2 2 F__law_draw (dCons (dK (.int 5)) (dK [])))) (dK []))) [10, 11]
      (vE x0 c (srcT t) (rwD false false (sortQ es)) (es.map entD) x5 (.d (.str n)) (.d T7) x10 x11) = some (.nx (vE x0 c (srcT t2) (rwD false false (sortQ es)) (es.map entD) x5 (.d (.str n)) (.d T7) (.d (.int s)) (.d (.int (1 + r))))) := by
    unfold vE
    generalize rwD false false (sortQ es) = R at *
    generalize es.map entD = D at *
    generalize (10 : Int) ^ 29 = ten at *
    simp [dCallM, ownB, hp, h1, h2, putL, ownL, small, sPar, sSets, setD, canSet_fr, f10, f11]
  have a2 : sAsg (dCall 4 F_added [] (dCons (dFz (dLc (dItems (dVar 3)) (dName 8) (dK true) (dFz (dLstV 8)) [8])) (dCons (dVar 6) (dCons (dVar 10) (dCons (dVar 11) (dK [])))))) (dName 3) (vE x0 c (srcT t2) (rwD false false (sortQ es)) (es.map entD) x5 (.d (.str n)) (.d T7) (.d (.int s)) (.d (.int (1 + r)))) =
      some (.nx (vE x0 c (srcT t2) (if es.any (atP s n) = true then rwD false false (sortQ es) else rwD false false (sortQ ((sortQ es).filter (outP n) ++ [(s, n, 1 + r)]))) (es.map entD) x5 (.d (.str n)) (.d T7) (.d (.int s)) (.d (.int (1 + r))))) := by
    have hL1 := hL (srcT t2) (.d (.int s)) (.d (.int (1 + r)))
    unfold vE at *
    rw [← hrw] at ha
    generalize (if es.any (atP s n) = true then rwD false false (sortQ es) else rwD false false (sortQ ((sortQ es).filter (outP n) ++ [(s, n, 1 + r)]))) = R2 at *
    generalize rwD false false (sortQ es) = R at *
    generalize es.map entD = D at *
    generalize (sortQ es).map (itC true) = RL at *
    simp [hL1, ha, setD, canSet]
  rw [seq_nx a1, seq_nx a2]
  have hin := notIn_ent es n
  by_cases c1 : es.any (atP s n) = true
  · -- the same score again: nothing changes
    obtain ⟨q, hq, hqa⟩ := List.any_eq_true.mp c1
    obtain ⟨rfl, rfl⟩ := of_decide_eq_true hqa
    have hh : hasN es q.2.1 = true := List.any_eq_true.mpr ⟨q, hq, decide_eq_true rfl⟩
    rw [hh] at hin
    have hix := ix_ent h hq
    have i0 : ixD (.tuple [.int q.1, .int q.2.2]) (.int 0) = some (.int q.1) := rfl
    have hne : neD (.int q.1) (.int q.1) = some (.bool false) := neE_same 0 rfl (by decide)
    rw [if_pos c1]
    refine ⟨t2, es, .d (.int q.1), .d (.int (1 + r)), h, by omega, rfl, rfl, ?_⟩
    unfold vE
    generalize rwD false false (sortQ es) = R at *
    generalize es.map entD = D at *
    simp [frz, frzS, hin, hix, i0, hne, flatD]
  · rw [if_neg c1]
    have hpr := put_row h (s, n, 1 + r)
    rw [show ((s, n, 1 + r) : Itm).2.1 = n from rfl] at hpr
    rw [hpr]
    have hpq := put_okE es (s, n, 1 + r) (by omega)
    refine ⟨t2, putE es (s, n, 1 + r), .d (.int s), .d (.int (1 + r)), ents_put h hn (by show 1 ≤ 1 + r; omega), putE_len _ _, rfl, rfl, ?_⟩
    by_cases hh : hasN es n = true
    · obtain ⟨q, hq, hqn⟩ := List.any_eq_true.mp hh
      have hqn := of_decide_eq_true hqn
      subst hqn
      rw [hh] at hin
      have hix := ix_ent h hq
      have i0 : ixD (.tuple [.int q.1, .int q.2.2]) (.int 0) = some (.int q.1) := rfl
      have hs : q.1 ≠ s := fun z => c1 (List.any_eq_true.mpr ⟨q, hq, decide_eq_true ⟨z, rfl⟩⟩)
      have hne : neD (.int q.1) (.int s) = some (.bool true) := by simp [hs]
      unfold vE
      generalize rwD false false (sortQ (putE es (s, q.2.1, 1 + r))) = R at *
      generalize (putE es (s, q.2.1, 1 + r)).map entD = D2 at *
      generalize es.map entD = D at *
      simp [frz, frzS, hin, hix, i0, hne, flatD, sSetQ, small, hpq]
    · have hh : hasN es n = false := by simpa using hh
      rw [hh] at hin
      unfold vE
      generalize rwD false false (sortQ (putE es (s, n, 1 + r))) = R at *
      generalize (putE es (s, n, 1 + r)).map entD = D2 at *
      generalize es.map entD = D at *
      simp [frz, frzS, hin, flatD, sSetQ, small, hpq]
end
end Tk
end

section
set_option Elab.async false
set_option linter.all false
set_option maxRecDepth 100000
set_option maxHeartbeats 1000000
/-! k44: the law. -/
variable [Fd.Uw]
namespace Tk
open PySem PySem.Spec PyProof.Rows L2 Evl Tb Fd
theorem ne_rw {qs : List Itm} (g : Good qs) : neD (rwD false false qs) (rwD false false qs) = some (.bool false) := neE_same 2 (by
  show ((qs.map (itC false)).all (okE 1)) = true
  rw [List.all_map, List.all_eq_true]
  intro q hq
  have s := g.sh q hq
  show ([PyData.int q.1, PyData.str q.2.1, PyData.int q.2.2].all (okE 0)) = true
  simp [okE, s]) (by decide)
section
variable {x0 : Sl} {c : Int} {es : List Itm} {x5 x6 x7 x10 x11 : Sl}
theorem p_test (h : Ents es) (hl : es.length ≤ 1000) (W : List PyData) (qs0 : List Itm) :
    sIf (dOrT (dTest (dBor (dOp neD (dVar 3) (dCall 1 F__law_due [] (dCons (dVar 4) (dK [])))))) (dOrT (dNotT (dTru (dUn (isiD "tuple") (dVar 7)))) (dNotT (dTru (dBor (dCall 2 F__law_places_right [] (dCons (dVar 3) (dCons (dVar 4) (dK [])))))))))
    (sRet (dK (.bool false)))
    (fun e => some (.nx e)) (vE x0 c W (rwD false false (sortQ es)) (es.map entD) x5 x6 (.d (rwD false false qs0)) x10 x11) = some (.nx (vE x0 c W (rwD false false (sortQ es)) (es.map entD) x5 x6 (.d (rwD false false qs0)) x10 x11)) := by
  have g := good_sort h hl
  have hd := e_due h hl
  have hp := e_places g hd
  have hne := ne_rw g
  have hi : rwD false false qs0 = .tuple (qs0.map itD) := rfl
  rw [hi]
  unfold vE
  generalize rwD false false (sortQ es) = R at *
  generalize qs0.map itD = R0 at *
  generalize es.map entD = D at *
  simp [frz, frzS, hd, hne, hp, flatD, isDi]
theorem law_turn (f0 : frB x0 = true) (h : Ents es) (hl : es.length ≤ 900) (t : Int × Int × Int) (f5 : frB x5 = true) (f6 : frB x6 = true) (f7 : frB x7 = true) (f10 : frB x10 = true) (f11 : frB x11 = true) : ∃ t' es' y0 y5 y6 y7 y10 y11, frB y0 = true ∧ Ents es' ∧ es'.length ≤ es.length + 1 ∧ frB y5 = true ∧ frB y6 = true ∧ frB y7 = true ∧ frB y10 = true ∧ frB y11 = true ∧
    m_law_L1 (vE x0 c (srcT t) (rwD false false (sortQ es)) (es.map entD) x5 x6 x7 x10 x11) = some (.nx (vE y0 c (srcT t') (rwD false false (sortQ es')) (es'.map entD) y5 y6 y7 y10 y11)) := by
  obtain ⟨n, t1, h1, hn⟩ := e_name t
  have a1 : sPar (dCons (dCallM 2 1 F__law_name (dK [])) (dCons (dVar 3) (dK []))) [6, 7] (vE x0 c (srcT t) (rwD false false (sortQ es)) (es.map entD) x5 x6 x7 x10 x11) = some (.nx (vE x0 c (srcT t1) (rwD false false (sortQ es)) (es.map entD) x5 (.d (.str n)) (.d (rwD false false (sortQ es))) x10 x11)) := by
    unfold vE
    generalize rwD false false (sortQ es) = R at *
    generalize es.map entD = D at *
    simp [dCallM, ownB, h1, putL, ownL, sPar, sSets, setD, canSet_fr, f6, f7]
  have hin := in_ent es n
  have l7 := lf_rw (sortQ es)
  -- what the branches come to
  have key : ∃ t' es' y0 y5 y10 y11, frB y0 = true ∧ Ents es' ∧ es'.length ≤ es.length + 1 ∧ frB y5 = true ∧ frB y10 = true ∧ frB y11 = true ∧
      (sIf (dAndT (dTest (dBor (dOp inQD (dVar 6) (dVar 4)))) (dTest (dOp eqD (dCallM 2 2 F__law_draw (dCons (dK (.int 3)) (dK []))) (dK (.int 0)))))
    (sSeq (sFree (dLc (dItems (dVar 3)) (dName 8) (dK true) (dFz (dLstV 8)) [8]) 9 8 (sAsg (dCall 2 F_dropped [] (dCons (dVar 9) (dCons (dVar 6) (dK [])))) (dName 3)))
    (sPopQ 4 (dVar 6)))
    (sSeq (sPar (dCons (dCallM 2 2 F__law_one (dCons (dFz (dLst (dCons (dK (.int 0)) (dCons (dK (.int 0)) (dCons (dK (.int 1)) (dCons (dUn negD (dK (.int 1))) (dCons (dK (.int 7)) (dCons (dOp powD (dK (.int 10)) (dK (.int 29))) (dK []))))))))) (dK []))) (dCons (dOp addD (dK (.int 1)) (dCallM 2 2 F__law_draw (dCons (dK (.int 5)) (dK [])))) (dK []))) [10, 11])
    (sSeq (sAsg (dCall 4 F_added [] (dCons (dFz (dLc (dItems (dVar 3)) (dName 8) (dK true) (dFz (dLstV 8)) [8])) (dCons (dVar 6) (dCons (dVar 10) (dCons (dVar 11) (dK [])))))) (dName 3))
    (sIf (dOrT (dTest (dBor (dOp notInQD (dVar 6) (dVar 4)))) (dTest (dBor (dOp neD (dOp ixD (dOp ixQD (dVar 4) (dVar 6)) (dK (.int 0))) (dVar 10)))))
    (sSetQ 4 (dTup (dCons (dVar 10) (dCons (dVar 11) (dK [])))) (dVar 6))
    (fun e => some (.nx e)))))) (vE x0 c (srcT t1) (rwD false false (sortQ es)) (es.map entD) x5 (.d (.str n)) (.d (rwD false false (sortQ es))) x10 x11) =
      some (.nx (vE y0 c (srcT t') (rwD false false (sortQ es')) (es'.map entD) y5 (.d (.str n)) (.d (rwD false false (sortQ es))) y10 y11)) := by
    by_cases hh : hasN es n = true
    · obtain ⟨r, t2, h2, r0, r1⟩ := e_draw t1 (m := 3) (by decide) (by decide)
      by_cases c0 : r = 0
      · subst c0
        have po := p_out (c := c) (x5 := x5) (x10 := x10) (x11 := x11) f5 f10 f11 f0 h (by omega) t2 hh l7
        refine ⟨t2, es.filter (outP n), lfs x0, lfs x5, lfs x10, lfs x11, lfs_fr f0, ents_out h n, by have := List.length_filter_le (outP n) es; omega, lfs_fr f5, lfs_fr f10, lfs_fr f11, ?_⟩
        rw [hh] at hin
        rw [← po]
        generalize sSeq (sFree _ _ _ _) _ = A
        generalize sSeq _ (sSeq _ _) = C
        unfold vE
        generalize rwD false false (sortQ es) = R at *
        generalize es.map entD = D at *
        simp [frz, frzS, hin, flatD, dCallM, ownB, h2, putL, ownL]
      · obtain ⟨t', es', y10, y11, k1, k2, k3, k4, pp⟩ := p_put (x0 := x0) (c := c) (x5 := x5) (x10 := x10) (x11 := x11) f10 f11 f5 h hl t2 hn (T7 := rwD false false (sortQ es))
        refine ⟨t', es', x0, x5, y10, y11, f0, k1, k2, f5, k3, k4, ?_⟩
        rw [hh] at hin
        rw [← pp]
        generalize sSeq (sFree _ _ _ _) _ = A
        generalize sSeq _ (sSeq _ _) = C
        unfold vE
        generalize rwD false false (sortQ es) = R at *
        generalize es.map entD = D at *
        simp [frz, frzS, hin, flatD, dCallM, ownB, h2, putL, ownL, c0]
    · obtain ⟨t', es', y10, y11, k1, k2, k3, k4, pp⟩ := p_put (x0 := x0) (c := c) (x5 := x5) (x10 := x10) (x11 := x11) f10 f11 f5 h hl t1 hn (T7 := rwD false false (sortQ es))
      refine ⟨t', es', x0, x5, y10, y11, f0, k1, k2, f5, k3, k4, ?_⟩
      have hh : hasN es n = false := by simpa using hh
      rw [hh] at hin
      rw [← pp]
      generalize sSeq (sFree _ _ _ _) _ = A
      generalize sSeq _ (sSeq _ _) = C
      unfold vE
      generalize rwD false false (sortQ es) = R at *
      generalize es.map entD = D at *
      simp [frz, frzS, hin, flatD]
  obtain ⟨t', es', y0, y5, y10, y11, k0, k1, k2, k5, k10, k11, kk⟩ := key
  refine ⟨t', es', y0, y5, .d (.str n), .d (rwD false false (sortQ es)), y10, y11, k0, k1, k2, k5, rfl, rfl, k10, k11, ?_⟩
  unfold m_law_L1
  rw [seq_nx a1, seq_nx kk]
  exact p_test k1 (by omega) _ _
theorem law_loop : ∀ (l : List PyData) (es : List Itm) (t : Int × Int × Int) (x0 x5 x6 x7 x10 x11 : Sl), frB x0 = true → Ents es → es.length + l.length ≤ 900 → frB x5 = true → frB x6 = true → frB x7 = true → frB x10 = true → frB x11 = true → ∃ t' es' y0 y5 y6 y7 y10 y11, frB y0 = true ∧ frB y5 = true ∧ frB y6 = true ∧ frB y7 = true ∧ frB y10 = true ∧ frB y11 = true ∧
    runFor (dName 5) m_law_L1 l (vE x0 c (srcT t) (rwD false false (sortQ es)) (es.map entD) x5 x6 x7 x10 x11) = some (.nx (vE y0 c (srcT t') (rwD false false (sortQ es')) (es'.map entD) y5 y6 y7 y10 y11))
  | [], es, t, x0, x5, x6, x7, x10, x11, f0, _, _, f5, f6, f7, f10, f11 => ⟨t, es, x0, x5, x6, x7, x10, x11, f0, f5, f6, f7, f10, f11, rfl⟩
  | k :: l, es, t, x0, x5, x6, x7, x10, x11, f0, h, hl, f5, f6, f7, f10, f11 => by
    rw [List.length_cons] at hl
    obtain ⟨t1, es1, y0, y5, y6, y7, y10, y11, g0, g1, g2, g5, g6, g7, g10, g11, k1⟩ := law_turn (x0 := x0) (c := c) (x5 := .d k) f0 h (by omega) t rfl f6 f7 f10 f11
    obtain ⟨t', es', z0, z5, z6, z7, z10, z11, m0, m5, m6, m7, m10, m11, ih⟩ := law_loop l es1 t1 y0 y5 y6 y7 y10 y11 g0 g1 (by omega) g5 g6 g7 g10 g11
    refine ⟨t', es', z0, z5, z6, z7, z10, z11, m0, m5, m6, m7, m10, m11, ?_⟩
    rw [runFor_cons_nx (e1 := vE x0 c (srcT t) (rwD false false (sortQ es)) (es.map entD) (.d k) x6 x7 x10 x11) (by
      unfold vE
      generalize rwD false false (sortQ es) = R at *
      generalize es.map entD = D at *
      simp [setD, canSet_fr, f5]) k1, ih]
end
abbrev wE (x0 x1 x2 x3 x4 x5 x6 x7 x10 x11 : Sl) : En := [x0, x1, x2, x3, x4, x5, x6, x7, .no, .no, x10, x11]
theorem law_cell {x0 x2 x3 x4 x5 x6 x7 x10 x11 : Sl} (f0 : frB x0 = true) (f2 : frB x2 = true) (f3 : frB x3 = true) (f4 : frB x4 = true) (f5 : frB x5 = true) (f6 : frB x6 = true) (f7 : frB x7 = true) (f10 : frB x10 = true) (f11 : frB x11 = true) (n : Int) :
    ∃ y0 y2 y3 y4 y5 y6 y7 y10 y11, frB y0 = true ∧ frB y2 = true ∧ frB y3 = true ∧ frB y4 = true ∧ frB y5 = true ∧ frB y6 = true ∧ frB y7 = true ∧ frB y10 = true ∧ frB y11 = true ∧ m_law_L2 (wE x0 (.d (.int n)) x2 x3 x4 x5 x6 x7 x10 x11) = some (.nx (wE y0 (.d (.int n)) y2 y3 y4 y5 y6 y7 y10 y11)) := by
  obtain ⟨t, ht⟩ := e_well n
  obtain ⟨m, t1, h1, hm⟩ := e_oneD t (xs := [4, 20]) (ds := [.int 4, .int 20]) rfl (by simp) (by simp)
  have hm2 : 0 ≤ m ∧ m ≤ 20 := by
    rcases List.mem_cons.mp hm with rfl | hm
    · omega
    · rw [List.mem_singleton.mp hm]
      omega
  obtain ⟨t', es', y0, y5, y6, y7, y10, y11, m0, m5, m6, m7, m10, m11, hw⟩ := law_loop (c := n) (rgD 0 m.toNat) [] t1 x0 x5 x6 x7 x10 x11 f0 ⟨fun _ h => (nomatch h), List.nodup_nil⟩ (by
    unfold rgD
    rw [List.length_map, List.length_range]
    show 0 + m.toNat ≤ 900
    omega) f5 f6 f7 f10 f11
  have h0 : rwD false false (sortQ []) = .tuple [] := by
    have : sortQ [] = [] := by simp [sortQ, sortF]
    rw [this]
    rfl
  rw [h0, List.map_nil] at hw
  refine ⟨y0, .o (srcT t'), .d (rwD false false (sortQ es')), .q (es'.map entD), y5, y6, y7, y10, y11, m0, rfl, rfl, rfl, m5, m6, m7, m10, m11, ?_⟩
  have hb : big m = true := decide_eq_true (by omega)
  unfold m_law_L2 wE
  unfold vE at hw
  generalize m_law_L1 = B at *
  generalize rwD false false (sortQ es') = R at *
  generalize es'.map entD = D at *
  generalize srcT t' = S2 at *
  simp [ht, setO, canSet_fr, f2, f3, f4, sParX, xCons, xConsQ, xNil, dQ0, sSetsX, setD, setQ, small, dCallM, ownB, h1, putL, ownL, hb, hw]
theorem law_true (ns : List Int) (hns : ns.length ≤ 63) : F_law [.list (ns.map .int)] = some (.bool true) := by
  have hcut : slD (.list (ns.map .int)) none (some 4) = some (.list ((ns.take 4).map .int)) := by
    show some (PyData.list (cutL _ none (some 4))) = _
    have := cut_to (ns.map PyData.int) 4
    rw [show ((4 : Nat) : Int) = 4 from rfl] at this
    rw [this, List.map_take]
  have hadd : addD (.list ((ns.take 4).map .int)) (.list [.int 0]) = some (.list ((ns.take 4 ++ [0]).map .int)) := by
    show (if ((ns.take 4).map PyData.int).length + 1 ≤ 100000 then _ else none) = _
    rw [if_pos (by rw [List.length_map, List.length_take]; omega), List.map_append]
    rfl
  obtain ⟨e2, h2, x0, x1, x2, x3, x4, x5, x6, x7, x10, x11, f0, f1, f2, f3, f4, f5, f6, f7, f10, f11, rfl⟩ := runFor_all (g := dName 1) (b := m_law_L2) (fun e => ∃ x0 x1 x2 x3 x4 x5 x6 x7 x10 x11, frB x0 = true ∧ frB x1 = true ∧ frB x2 = true ∧ frB x3 = true ∧ frB x4 = true ∧ frB x5 = true ∧ frB x6 = true ∧ frB x7 = true ∧ frB x10 = true ∧ frB x11 = true ∧ e = wE x0 x1 x2 x3 x4 x5 x6 x7 x10 x11)
    (ds := (ns.take 4 ++ [0]).map .int) (e := wE (.d (.list (ns.map .int))) .no .no .no .no .no .no .no .no .no) ⟨_, _, _, _, _, _, _, _, _, _, rfl, rfl, rfl, rfl, rfl, rfl, rfl, rfl, rfl, rfl, rfl⟩ (by
    rintro d hd e ⟨x0, x1, x2, x3, x4, x5, x6, x7, x10, x11, f0, f1, f2, f3, f4, f5, f6, f7, f10, f11, rfl⟩
    obtain ⟨n, hn, rfl⟩ := List.mem_map.mp hd
    obtain ⟨y0, y2, y3, y4, y5, y6, y7, y10, y11, g0, g2, g3, g4, g5, g6, g7, g10, g11, hc⟩ := law_cell f0 f2 f3 f4 f5 f6 f7 f10 f11 n
    refine ⟨wE x0 (.d (.int n)) x2 x3 x4 x5 x6 x7 x10 x11, _, ?_, .inl hc, _, _, _, _, _, _, _, _, _, _, g0, rfl, g2, g3, g4, g5, g6, g7, g10, g11, rfl⟩
    unfold wE
    generalize ns.map PyData.int = S at *
    simp [setD, canSet_fr, f1])
  unfold F_law fnD m_law
  generalize m_law_L2 = B2 at *
  generalize (ns.take 4 ++ [0]).map PyData.int = S4 at *
  generalize (ns.take 4).map PyData.int = S0 at *
  generalize ns.map PyData.int = S at *
  have i0 : init [.list S] 11 = [.d (.list S), .no, .no, .no, .no, .no, .no, .no, .no, .no, .no, .no] := rfl
  unfold wE at *
  have a2 : sFor (dItems (dOp addD (dSl (dVar 0) (dK none) (dPart (dK (.int 4)))) (dFz (dLst (dCons (dK (.int 0)) (dK [])))))) (dName 1) B2 [.d (.list S), .no, .no, .no, .no, .no, .no, .no, .no, .no, .no, .no] = some (.nx [x0, x1, x2, x3, x4, x5, x6, x7, .no, .no, x10, x11]) := by
    simp [dSl, hcut, small, hadd, h2]
  rw [i0, seq_nx a2]
  rfl
end Tk
end

section
set_option Elab.async false
set_option linter.all false
set_option maxRecDepth 100000
set_option maxHeartbeats 0
/-! The end: what the top leaves, and the law. -/
namespace Tk
open PySem PySem.Spec PyProof.Rows L2 Evl Tb Fd
def dd_is_whole : He.DefD := ⟨("is_whole", none), "is_whole", "is_whole", defArgs s_is_whole, defBody s_is_whole, defScope s_is_whole, [], []⟩
def dd_is_row : He.DefD := ⟨("is_row", none), "is_row", "is_row", defArgs s_is_row, defBody s_is_row, defScope s_is_row, [], []⟩
def dd__is_name : He.DefD := ⟨("_is_name", none), "_is_name", "_is_name", defArgs s__is_name, defBody s__is_name, defScope s__is_name, [], []⟩
def dd__rank : He.DefD := ⟨("_rank", none), "_rank", "_rank", defArgs s__rank, defBody s__rank, defScope s__rank, [], []⟩
def dd__as_tuples : He.DefD := ⟨("_as_tuples", none), "_as_tuples", "_as_tuples", defArgs s__as_tuples, defBody s__as_tuples, defScope s__as_tuples, [], []⟩
def dd__law_cell_at : He.DefD := ⟨("_law_cell_at", none), "_law_cell_at", "_law_cell_at", defArgs s__law_cell_at, defBody s__law_cell_at, defScope s__law_cell_at, [], []⟩
def dd__law_well : He.DefD := ⟨("_law_well", none), "_law_well", "_law_well", defArgs s__law_well, defBody s__law_well, defScope s__law_well, [], []⟩
def dd__law_draw : He.DefD := ⟨("_law_draw", none), "_law_draw", "_law_draw", defArgs s__law_draw, defBody s__law_draw, defScope s__law_draw, [], []⟩
def dd__law_due : He.DefD := ⟨("_law_due", none), "_law_due", "_law_due", defArgs s__law_due, defBody s__law_due, defScope s__law_due, [], []⟩
def dd_check_number : He.DefD := ⟨("check_number", none), "check_number", "check_number", defArgs s_check_number, defBody s_check_number, defScope s_check_number, [.non], []⟩
def dd_check_key : He.DefD := ⟨("check_key", none), "check_key", "check_key", defArgs s_check_key, defBody s_check_key, defScope s_check_key, [], []⟩
def dd__is_item : He.DefD := ⟨("_is_item", none), "_is_item", "_is_item", defArgs s__is_item, defBody s__is_item, defScope s__is_item, [], []⟩
def dd__check_name : He.DefD := ⟨("_check_name", none), "_check_name", "_check_name", defArgs s__check_name, defBody s__check_name, defScope s__check_name, [], []⟩
def dd__law_one : He.DefD := ⟨("_law_one", none), "_law_one", "_law_one", defArgs s__law_one, defBody s__law_one, defScope s__law_one, [], []⟩
def dd__wrong_item : He.DefD := ⟨("_wrong_item", none), "_wrong_item", "_wrong_item", defArgs s__wrong_item, defBody s__wrong_item, defScope s__wrong_item, [], []⟩
def dd__law_name : He.DefD := ⟨("_law_name", none), "_law_name", "_law_name", defArgs s__law_name, defBody s__law_name, defScope s__law_name, [], []⟩
def dd_is_scored : He.DefD := ⟨("is_scored", none), "is_scored", "is_scored", defArgs s_is_scored, defBody s_is_scored, defScope s_is_scored, [], []⟩
def dd__check_items : He.DefD := ⟨("_check_items", none), "_check_items", "_check_items", defArgs s__check_items, defBody s__check_items, defScope s__check_items, [], []⟩
def dd__law_items : He.DefD := ⟨("_law_items", none), "_law_items", "_law_items", defArgs s__law_items, defBody s__law_items, defScope s__law_items, [], []⟩
def dd_added : He.DefD := ⟨("added", none), "added", "added", defArgs s_added, defBody s_added, defScope s_added, [], []⟩
def dd_dropped : He.DefD := ⟨("dropped", none), "dropped", "dropped", defArgs s_dropped, defBody s_dropped, defScope s_dropped, [], []⟩
def dd_place_of : He.DefD := ⟨("place_of", none), "place_of", "place_of", defArgs s_place_of, defBody s_place_of, defScope s_place_of, [], []⟩
def dd__law_places_right : He.DefD := ⟨("_law_places_right", none), "_law_places_right", "_law_places_right", defArgs s__law_places_right, defBody s__law_places_right, defScope s__law_places_right, [], []⟩
def dd_law : He.DefD := ⟨("law", none), "law", "law", defArgs s_law, defBody s_law, defScope s_law, [], []⟩
def defsD : List He.DefD := [dd_is_whole, dd_is_row, dd__is_name, dd__rank, dd__as_tuples, dd__law_cell_at, dd__law_well, dd__law_draw, dd__law_due, dd_check_number, dd_check_key, dd__is_item, dd__check_name, dd__law_one, dd__wrong_item, dd__law_name, dd_is_scored, dd__check_items, dd__law_items, dd_added, dd_dropped, dd_place_of, dd__law_places_right, dd_law]
def faD : List He.Fa := [.glo "is_whole", .glo "is_row", .glo "_is_name", .glo "_rank", .glo "_as_tuples", .glo "_law_cell_at", .glo "_law_well", .glo "_law_draw", .glo "_law_due", .glo "check_number", .glo "check_key", .glo "_is_item", .glo "_check_name", .glo "_law_one", .glo "_wrong_item", .glo "_law_name", .glo "is_scored", .glo "_check_items", .glo "_law_items", .glo "added", .glo "dropped", .glo "place_of", .glo "_law_places_right", .glo "law", .free "int", .free "bool", .free "str", .free "list", .free "tuple", .free "dict", .free "set", .free "len", .free "max", .free "min", .free "abs", .free "sum", .free "all", .free "any", .free "repr", .free "sorted", .free "zip", .free "isinstance", .free "enumerate", .free "reversed", .free "range", .int "LONGEST_NAME" 8]
abbrev RR : PySem.W.OpenRow := PySem.W.OpenLaw.row PySem.Challenge.rw_tosslanes_k44_whole_scored_rows
/-- any program, any world: what the end takes of the base does not speak of them -/
local instance uw0 : Fd.Uw := ⟨RR.prog, ⟨fun _ _ => 0, { strHash := fun _ => 0, shareClass := fun _ => 0, mergeTok := fun t => t, idOf := fun _ => 0, idOfShared := fun _ _ => 0, followText := fun _ => false, idOfImm := fun _ => 0 }⟩⟩
def tsD : List (Str × List Str) := []
abbrev hkD : PySem.W.Hook := Fd.hookT 4 faD defsD tsD
def obD (s : PySem.W.SharedT) : Fd.AlT := Fd.obsTG 4 faD defsD tsD (HandSHeadRun.getT s)
theorem obD_eq (s : PySem.W.SharedT) : obD s = hkD.obs s.abs := Fd.obsTG_eq (HandSHeadRun.getT_eq s)
def namesD : List PySem.Str := (["LaneError", "NoKey", "NoNumber", "NoItems", "NoName", "is_whole", "is_row", "check_number", "check_key", "LONGEST_NAME", "is_scored", "added", "dropped", "place_of", "_is_name", "_is_item", "_wrong_item", "_check_items", "_check_name", "_rank", "_as_tuples", "_law_cell_at", "_law_well", "_law_draw", "_law_one", "_law_name", "_law_items", "_law_due", "_law_places_right"] : List PySem.Str)
theorem runD (w : World) : HandSHeadRun.RunEq RR (PySem.W.view RR.prog [33]) hkD obD 8000 namesD w := by
  intro os
  kernel_rfl
theorem factsD {P : Program} {w : World} {K : PySem.W.Frag} {h : Heap} {mg : Str → Option Value} {f : Addr} (X : K.In h) (G : h.Ns mainGlobals mg) (hfa : mg ("law" : Str) = some (.ref f)) (c0 : Fd.obsT faD defsD tsD K = (He.valD defsD, true)) :
    ∃ fd : FuncData, (∀ (s : Shared) (v : Value), BindsTo s fd ⟨[v], []⟩ [("_law_script", v)]) ∧ ∀ base : Heap, K.In base → base.Ns mainGlobals mg → FnOk P w K mg base CX0 7 f fd ["_law_script"] (spLaw K) := by
  have c := Fd.saysT_D c0
  obtain ⟨fd0, F0⟩ := c.def_ 0 (d := dd_is_whole) rfl
  have m0 := He.glo_ok X G (c.fact 0 (f := .glo "is_whole") rfl)
  obtain ⟨fd1, F1⟩ := c.def_ 1 (d := dd_is_row) rfl
  have m1 := He.glo_ok X G (c.fact 1 (f := .glo "is_row") rfl)
  obtain ⟨fd2, F2⟩ := c.def_ 2 (d := dd__is_name) rfl
  have m2 := He.glo_ok X G (c.fact 2 (f := .glo "_is_name") rfl)
  obtain ⟨fd3, F3⟩ := c.def_ 3 (d := dd__rank) rfl
  have m3 := He.glo_ok X G (c.fact 3 (f := .glo "_rank") rfl)
  obtain ⟨fd4, F4⟩ := c.def_ 4 (d := dd__as_tuples) rfl
  have m4 := He.glo_ok X G (c.fact 4 (f := .glo "_as_tuples") rfl)
  obtain ⟨fd5, F5⟩ := c.def_ 5 (d := dd__law_cell_at) rfl
  have m5 := He.glo_ok X G (c.fact 5 (f := .glo "_law_cell_at") rfl)
  obtain ⟨fd6, F6⟩ := c.def_ 6 (d := dd__law_well) rfl
  have m6 := He.glo_ok X G (c.fact 6 (f := .glo "_law_well") rfl)
  obtain ⟨fd7, F7⟩ := c.def_ 7 (d := dd__law_draw) rfl
  have m7 := He.glo_ok X G (c.fact 7 (f := .glo "_law_draw") rfl)
  obtain ⟨fd8, F8⟩ := c.def_ 8 (d := dd__law_due) rfl
  have m8 := He.glo_ok X G (c.fact 8 (f := .glo "_law_due") rfl)
  obtain ⟨fd9, F9⟩ := c.def_ 9 (d := dd_check_number) rfl
  have m9 := He.glo_ok X G (c.fact 9 (f := .glo "check_number") rfl)
  obtain ⟨fd10, F10⟩ := c.def_ 10 (d := dd_check_key) rfl
  have m10 := He.glo_ok X G (c.fact 10 (f := .glo "check_key") rfl)
  obtain ⟨fd11, F11⟩ := c.def_ 11 (d := dd__is_item) rfl
  have m11 := He.glo_ok X G (c.fact 11 (f := .glo "_is_item") rfl)
  obtain ⟨fd12, F12⟩ := c.def_ 12 (d := dd__check_name) rfl
  have m12 := He.glo_ok X G (c.fact 12 (f := .glo "_check_name") rfl)
  obtain ⟨fd13, F13⟩ := c.def_ 13 (d := dd__law_one) rfl
  have m13 := He.glo_ok X G (c.fact 13 (f := .glo "_law_one") rfl)
  obtain ⟨fd14, F14⟩ := c.def_ 14 (d := dd__wrong_item) rfl
  have m14 := He.glo_ok X G (c.fact 14 (f := .glo "_wrong_item") rfl)
  obtain ⟨fd15, F15⟩ := c.def_ 15 (d := dd__law_name) rfl
  have m15 := He.glo_ok X G (c.fact 15 (f := .glo "_law_name") rfl)
  obtain ⟨fd16, F16⟩ := c.def_ 16 (d := dd_is_scored) rfl
  have m16 := He.glo_ok X G (c.fact 16 (f := .glo "is_scored") rfl)
  obtain ⟨fd17, F17⟩ := c.def_ 17 (d := dd__check_items) rfl
  have m17 := He.glo_ok X G (c.fact 17 (f := .glo "_check_items") rfl)
  obtain ⟨fd18, F18⟩ := c.def_ 18 (d := dd__law_items) rfl
  have m18 := He.glo_ok X G (c.fact 18 (f := .glo "_law_items") rfl)
  obtain ⟨fd19, F19⟩ := c.def_ 19 (d := dd_added) rfl
  have m19 := He.glo_ok X G (c.fact 19 (f := .glo "added") rfl)
  obtain ⟨fd20, F20⟩ := c.def_ 20 (d := dd_dropped) rfl
  have m20 := He.glo_ok X G (c.fact 20 (f := .glo "dropped") rfl)
  obtain ⟨fd21, F21⟩ := c.def_ 21 (d := dd_place_of) rfl
  have m21 := He.glo_ok X G (c.fact 21 (f := .glo "place_of") rfl)
  obtain ⟨fd22, F22⟩ := c.def_ 22 (d := dd__law_places_right) rfl
  have m22 := He.glo_ok X G (c.fact 22 (f := .glo "_law_places_right") rfl)
  obtain ⟨fd23, F23⟩ := c.def_ 23 (d := dd_law) rfl
  have e := hfa.symm.trans (He.glo_ok X G (c.fact 23 (f := .glo "law") rfl))
  cases e
  have bl : Bm mg := ⟨He.free_ok X G (c.fact 24 (f := .free "int") rfl), He.free_ok X G (c.fact 25 (f := .free "bool") rfl), He.free_ok X G (c.fact 26 (f := .free "str") rfl), He.free_ok X G (c.fact 27 (f := .free "list") rfl), He.free_ok X G (c.fact 28 (f := .free "tuple") rfl), He.free_ok X G (c.fact 29 (f := .free "dict") rfl), He.free_ok X G (c.fact 30 (f := .free "set") rfl), He.free_ok X G (c.fact 31 (f := .free "len") rfl), He.free_ok X G (c.fact 32 (f := .free "max") rfl), He.free_ok X G (c.fact 33 (f := .free "min") rfl), He.free_ok X G (c.fact 34 (f := .free "abs") rfl), He.free_ok X G (c.fact 35 (f := .free "sum") rfl), He.free_ok X G (c.fact 36 (f := .free "all") rfl), He.free_ok X G (c.fact 37 (f := .free "any") rfl), He.free_ok X G (c.fact 38 (f := .free "repr") rfl), He.free_ok X G (c.fact 39 (f := .free "sorted") rfl), He.free_ok X G (c.fact 40 (f := .free "zip") rfl), He.free_ok X G (c.fact 41 (f := .free "isinstance") rfl), He.free_ok X G (c.fact 42 (f := .free "enumerate") rfl), He.free_ok X G (c.fact 43 (f := .free "reversed") rfl), He.free_ok X G (c.fact 44 (f := .free "range") rfl)⟩
  have b := FunD.bindsA (ps := ["_law_script"]) F23 fun _ _ _ _ _ _ us hl => match us, hl with | [_], _ => rfl
  refine ⟨fd23, fun s v => b s [v] rfl, fun base _ _ => ?_⟩
  obtain ⟨t_LONGEST_NAME, g_LONGEST_NAME⟩ := He.int_ok X G (c.fact 45 (f := .int "LONGEST_NAME" 8) rfl)
  have r_LONGEST_NAME : RelV (.int 8) (Value.int 8 t_LONGEST_NAME) := ⟨t_LONGEST_NAME, rfl⟩
  have A0 := H_is_whole (P := P) (w := w) (base := base) (CX := CX0) bl noY0 F0 m0
  have A1 := H_is_row (P := P) (w := w) (base := base) (CX := CX0) bl noY0 F1 m1
  have A2 := H__is_name (P := P) (w := w) (base := base) (CX := CX0) bl noY0 g_LONGEST_NAME r_LONGEST_NAME F2 m2
  have A3 := H__rank (P := P) (w := w) (base := base) (CX := CX0) bl noY0 F3 m3
  have A4 := H__as_tuples (P := P) (w := w) (base := base) (CX := CX0) bl noY0 F4 m4
  have A5 := H__law_cell_at (P := P) (w := w) (base := base) (CX := CX0) bl noY0 F5 m5
  have A6 := H__law_well (P := P) (w := w) (base := base) (CX := CX0) bl noY0 F6 m6
  have A7 := H__law_draw (P := P) (w := w) (base := base) (CX := CX0) bl noY0 F7 m7
  have A8 := H__law_due (P := P) (w := w) (base := base) (CX := CX0) bl noY0 F8 m8
  have A9 := H_check_number (P := P) (w := w) (base := base) (CX := CX0) bl noY0 A0 F9 m9
  have A10 := H_check_key (P := P) (w := w) (base := base) (CX := CX0) bl noY0 A0 F10 m10
  have A11 := H__is_item (P := P) (w := w) (base := base) (CX := CX0) bl noY0 A1 A0 A2 F11 m11
  have A12 := H__check_name (P := P) (w := w) (base := base) (CX := CX0) bl noY0 A2 F12 m12
  have A13 := H__law_one (P := P) (w := w) (base := base) (CX := CX0) bl noY0 A7 F13 m13
  have A14 := H__wrong_item (P := P) (w := w) (base := base) (CX := CX0) bl noY0 A1 A11 F14 m14
  have A15 := H__law_name (P := P) (w := w) (base := base) (CX := CX0) bl noY0 A13 F15 m15
  have A16 := H_is_scored (P := P) (w := w) (base := base) (CX := CX0) bl noY0 A14 F16 m16
  have A17 := H__check_items (P := P) (w := w) (base := base) (CX := CX0) bl noY0 A14 F17 m17
  have A18 := H__law_items (P := P) (w := w) (base := base) (CX := CX0) bl noY0 A7 A13 A15 F18 m18
  have A19 := H_added (P := P) (w := w) (base := base) (CX := CX0) bl noY0 A17 A12 A10 A9 A4 F19 m19
  have A20 := H_dropped (P := P) (w := w) (base := base) (CX := CX0) bl noY0 A17 A3 A4 F20 m20
  have A21 := H_place_of (P := P) (w := w) (base := base) (CX := CX0) bl noY0 A17 A12 A3 F21 m21
  have A22 := H__law_places_right (P := P) (w := w) (base := base) (CX := CX0) bl noY0 A8 A21 A16 F22 m22
  exact H_law law_true bl noY0 A6 A13 A15 A7 A20 A19 A22 A8 F23
end Tk
open PySem PySem.W PySem.Calls PyProof.Rows
theorem PySem.Challenge.cw_tosslanes_k44_whole_scored_rows_holds : PySem.Challenge.rw_tosslanes_k44_whole_scored_rows.Holds := by
  w_on; o_law
  refine HandSHeadRun.head_any (r := OpenLaw.row PySem.Challenge.rw_tosslanes_k44_whole_scored_rows) (q := view (OpenLaw.row PySem.Challenge.rw_tosslanes_k44_whole_scored_rows).prog [33]) (H := Tk.hkD) (ob := Tk.obD) (M := 8000) (loose := Tk.namesD) (d := HandSHeadRun.topDef (OpenLaw.row PySem.Challenge.rw_tosslanes_k44_whole_scored_rows).prog 33) (kwd := []) Tk.obD_eq
    (by kernel_rfl) (fun s => by kernel_rfl) Tk.runD (by kernel_rfl) (by kernel_rfl) (by kernel_rfl) (by rfl) (by first | assumption | decide +kernel) (by decide +kernel) ⟨rfl, rfl, rfl, rfl, rfl, by decide +kernel⟩ ?hw ?hc
  case hw => w_witness2
  case hc =>
    refine L2.walk_ofE (l := PySem.Challenge.rw_tosslanes_k44_whole_scored_rows) (n := 63) (k := 7) (x := "_law_script") (CX := L2.CX0) rfl (by decide) (by kernel_rfl) ⟨rfl, by decide, by decide⟩ ?F (fun _ _ _ _ z => z)
    intro w mg fa h Y G hmg0
    obtain ⟨K, KX, c⟩ := Y
    have hmg : mg ("law" : PySem.Str) = some (.ref fa) := by
      have e : (HandSHeadRun.topDef (OpenLaw.row PySem.Challenge.rw_tosslanes_k44_whole_scored_rows).prog 33).name = ("law" : PySem.Str) := by kernel_rfl
      rw [← e]
      exact hmg0
    obtain ⟨fd, hb, hF⟩ := Tk.factsD (P := (PySem.Challenge.rw_tosslanes_k44_whole_scored_rows).prog) (w := w) KX G hmg c
    exact ⟨K, fd, Fd.spLaw K, KX, hb, fun H a ns hl _ hS => ⟨a, ns, rfl, hS, hl, fun _ => rfl⟩, hF⟩
end
