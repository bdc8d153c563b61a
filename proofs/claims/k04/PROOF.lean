import PyProof.Rows.All
import Wide.All
import OpenK.AllK
import Wide.FinOn
import HandS.ForMost
import HandS.IsInst
import HandS.Wide
import HandS.Evl
import HandS.Rev
import HandS.Walk
import HandS.NoneIn
import HandS.Style
import HandS.Defaults
import KE.GoesEnumKw
import HandS.SortKw
import KE.DataMinMax
import KE.KDictPairs
import HandS.Conv
import HandS.TupMul
import HandS.TupAny
import HandS.CallLocal
import HandS.ExcInit
import HandS.ExcField
import HandS.TryMany
import HandS.WordsExc
import PySem.Challenge.RW_tosslanes_k04_whole_coins_and_heights
import HandS.ExcOwn
import HandS.SortInts
import HandS.AnyAll
import HandS.Text
import HandS.Deep
import PyProof.CallFns
import HandS.More
import HandS.HeadHook1
import HandS.HeadHook2
import HandS.SetFor
import HandS.Head0
import HandS.Head1
import HandS.Head2
import HandS.HeadEnd
section
set_option Elab.async false
set_option linter.all false
set_option maxRecDepth 100000
set_option maxHeartbeats 4000000
/-! Toss base 1: a def by its name (Has), data (Dp) carried along, what an expression gives as data (EvD), rows that are lists or tuples. -/
namespace Tb
open PySem PySem.Spec PyProof.Rows L2 Evl

/-! ### a def of the module, by its name -/
/-- CX lets nothing out that is wanted of nobody -/
def NoX (CX : CXT) : Prop := ∀ X : Cx, Passes CX X.nox E0
theorem noX0 : NoX CX0 := fun _ => pass0
structure Has (P : Program) (w : World) (K : PySem.W.Frag) (mg : Str → Option Value) (base : Heap) (CX : CXT) (x : Str) (k : Nat) (ps : List Str) (dvs : List V) (sp : Sp) : Prop where
  ex : ∃ (f : Addr) (fd : FuncData) (ds : List Value), FnOk P w K mg base CX k f fd ps sp ∧ mg x = some (.ref f) ∧ PySem.W.keepIn K (.ref f) = true ∧ Vals dvs ds ∧ Binds K fd ps ds
theorem pe_has {X : Cx} {CX : CXT} {x : Str} {p pos : Pos} {e : Expr} {es : List Expr} {k : Nat} {ps : List Str} {dvs : List V} {sp : Sp} {t : TA} {E : XK} (F : Has X.prog X.w X.K X.mg X.base CX x k ps dvs sp) (hr : Room k X.A) (hg : Gl X x)
    (ha : PA X (e :: es) t) (hx : Passes CX X E)
    (hd : (x == ("__debug__" : Str)) = false := by decide)
    (he : starEach (e :: es) X.env = (false, eval e X.env) :: starEach es X.env := by rfl) (hpl : (backTo pos (starEach es X.env)).any (·.1) = false := by rfl) : PE X (.Call (.Name x p) (e :: es) [] pos) (tCall sp dvs E t) := by
  obtain ⟨f, fd, ds, F, hm, hk, hv, hb⟩ := F.ex
  exact pe_call F hr hg hm hk hb hv hx ha hd he hpl
/-- a def behind the top, its name, its level -/
theorem has_of {P : Program} {w : World} {K : PySem.W.Frag} {mg : Str → Option Value} {base : Heap} {CX : CXT} {x qual : Str} {st : Stmt} {f : Addr} {fd : FuncData} {k : Nat} {ps : List Str} {sp : Sp}
    (F : FunD K x qual (defArgs st) (defBody st) (defScope st) [] [] f fd) (hm : mg x = some (.ref f)) (ok : FnOk P w K mg base CX k f fd ps sp)
    (h : ∀ (kV doc pm : Value) (an : Option Addr) (cdv ct : Value) (us : List Value), us.length = ps.length → bindArgs (PySem.W.fnOf x qual (defArgs st) (defBody st) (defScope st) .none kV doc pm an cdv ct) ⟨us, []⟩ = pure (ps.zip us)) :
    Has P w K mg base CX x k ps [] sp := by
  refine ⟨f, fd, [], ok, hm, F.kp, .nil, ?_⟩
  obtain ⟨oc, od, dV, kV, doc, pm, an, cdv, ct, osl, rfl, lk, hcd, hD, hK⟩ := F.ex
  rcases hD with ⟨_, rfl⟩ | ⟨e, _⟩
  · exact .all (h kV doc pm an cdv ct)
  · exact absurd rfl e

end Tb
namespace L2
open PySem PySem.Spec PyProof.Rows Evl
/-! ### data -/
section
variable {K : PySem.W.Frag} {H H' : Hp} {v : V} {vs : List V} {d : PyData} {ds : List PyData}
mutual
theorem dp_mono (e : Ex H H') : ∀ {v : V} {d : PyData}, Dp K H v d → Dp K H' v d
  | _, _, .non => .non
  | _, _, .bl b => .bl b
  | _, _, .int i => .int i
  | _, _, .str x => .str x
  | _, _, .lst h a => .lst (ex_l e h) (dpa_mono e a)
  | _, _, .tup h a => .tup (ex_t e h) (dpa_mono e a)
theorem dpa_mono (e : Ex H H') : ∀ {vs : List V} {ds : List PyData}, DpAll K H vs ds → DpAll K H' vs ds
  | _, _, .nil => .nil
  | _, _, .cons h a => .cons (dp_mono e h) (dpa_mono e a)
end
theorem Dp.int_of {i : Int} (h : Dp K H v (.int i)) : v = .int i := by cases h; rfl
theorem Dp.bl_of {b : Bool} (h : Dp K H v (.bool b)) : v = .bl b := by cases h; rfl
theorem Dp.non_of (h : Dp K H v .none) : v = .non := by cases h; rfl
theorem Dp.str_of {x : Str} (h : Dp K H v (.str x)) : v = .str x := by cases h; rfl
theorem Dp.tup_of (h : Dp K H v (.tuple ds)) : ∃ a xs, v = .ref a ∧ SqT K H a xs ∧ DpAll K H xs ds := by
  cases h with
  | tup h a => exact ⟨_, _, rfl, h, a⟩
theorem Dp.lst_of (h : Dp K H v (.list ds)) : ∃ a xs, v = .ref a ∧ SqL K H a xs ∧ DpAll K H xs ds := by
  cases h with
  | lst h a => exact ⟨_, _, rfl, h, a⟩
theorem DpAll.length : ∀ {vs : List V} {ds : List PyData}, DpAll K H vs ds → vs.length = ds.length
  | _, _, .nil => rfl
  | _, _, .cons _ a => by rw [List.length_cons, List.length_cons, DpAll.length a]
theorem DpAll.get : ∀ {vs : List V} {ds : List PyData} {i : Nat} {v : V}, DpAll K H vs ds → vs[i]? = some v → ∃ d, ds[i]? = some d ∧ Dp K H v d
  | _, _, i, v, .nil, h => by simp at h
  | _, _, 0, v, .cons r _, h => by simp at h; subst h; exact ⟨_, rfl, r⟩
  | _, _, i + 1, v, .cons _ a, h => by
    obtain ⟨d, h1, h2⟩ := DpAll.get (i := i) (v := v) a (by simpa using h)
    exact ⟨d, by simpa using h1, h2⟩
theorem DpAll.get' : ∀ {vs : List V} {ds : List PyData} {i : Nat} {d : PyData}, DpAll K H vs ds → ds[i]? = some d → ∃ v, vs[i]? = some v ∧ Dp K H v d
  | _, _, i, d, .nil, h => by simp at h
  | _, _, 0, d, .cons r _, h => by simp at h; subst h; exact ⟨_, rfl, r⟩
  | _, _, i + 1, d, .cons _ a, h => by
    obtain ⟨v, h1, h2⟩ := DpAll.get' (i := i) (d := d) a (by simpa using h)
    exact ⟨v, by simpa using h1, h2⟩
theorem DpAll.append : ∀ {vs ws : List V} {ds es : List PyData}, DpAll K H vs ds → DpAll K H ws es → DpAll K H (vs ++ ws) (ds ++ es)
  | _, _, _, _, .nil, b => b
  | _, _, _, _, .cons r a, b => .cons r (DpAll.append a b)
theorem DpAll.one (h : Dp K H v d) : DpAll K H [v] [d] := .cons h .nil
theorem DpAll.take : ∀ {vs : List V} {ds : List PyData} (n : Nat), DpAll K H vs ds → DpAll K H (vs.take n) (ds.take n)
  | _, _, 0, _ => .nil
  | _, _, _ + 1, .nil => .nil
  | _, _, n + 1, .cons r a => .cons r (DpAll.take n a)
theorem DpAll.drop : ∀ {vs : List V} {ds : List PyData} (n : Nat), DpAll K H vs ds → DpAll K H (vs.drop n) (ds.drop n)
  | _, _, 0, r => r
  | _, _, _ + 1, .nil => .nil
  | _, _, n + 1, .cons _ a => DpAll.drop n a
theorem DpAll.ints : ∀ {vs : List V} {ns : List Int}, DpAll K H vs (ns.map .int) → vs = ns.map V.int
  | _, [], .nil => rfl
  | _, n :: ns, .cons r a => by
    rw [Dp.int_of r, DpAll.ints a]
    rfl
theorem DpAll.of_ints : ∀ ns : List Int, DpAll K H (ns.map V.int) (ns.map .int)
  | [] => .nil
  | n :: ns => .cons (.int n) (DpAll.of_ints ns)

end
end L2
namespace Tb
open PySem PySem.Spec PyProof.Rows L2 Evl
section
variable {K : PySem.W.Frag} {H H' : Hp} {v : V} {vs : List V} {d : PyData} {ds : List PyData}
/-- a row: a list or a tuple -/
def rows (b : Bool) (ds : List PyData) : PyData := if b then .list ds else .tuple ds
def Row (K : PySem.W.Frag) (H : Hp) (a : Addr) (xs : List V) : Prop := SqL K H a xs ∨ SqT K H a xs
theorem row_mono (e : Ex H H') {a : Addr} {xs : List V} (h : Row K H a xs) : Row K H' a xs := h.elim (fun h => .inl (ex_l e h)) fun h => .inr (ex_t e h)
theorem row_of {b : Bool} (h : Dp K H v (rows b ds)) : ∃ a xs, v = .ref a ∧ Row K H a xs ∧ DpAll K H xs ds := by
  cases b with
  | true =>
    obtain ⟨a, xs, e, h, q⟩ := Dp.lst_of (show Dp K H v (.list ds) from h)
    exact ⟨a, xs, e, .inl h, q⟩
  | false =>
    obtain ⟨a, xs, e, h, q⟩ := Dp.tup_of (show Dp K H v (.tuple ds) from h)
    exact ⟨a, xs, e, .inr h, q⟩
end
end Tb
end

section
set_option Elab.async false
set_option linter.all false
set_option maxRecDepth 100000
set_option maxHeartbeats 4000000
/-! Toss base 2: what an expression gives as data. -/
namespace Tb
open PySem PySem.Spec PyProof.Rows L2 Evl

/-! ### growth: H is what is known for good, H1 the whole heap; behind a step G is known for good, H2 the whole heap; what stood in H1 and was not known for good is not in G -/
structure Gr (H H1 G H2 : Hp) : Prop where
  hg : Ex H G
  g2 : Ex G H2
  h12 : Ex H1 H2
  sep : ∀ b, H b = none → H1 b ≠ none → G b = none
theorem Gr.refl {H H1 : Hp} (e : Ex H H1) : Gr H H1 H H1 := ⟨Ex.refl H, e, Ex.refl H1, fun _ h _ => h⟩
theorem Gr.ex {H H1 H2 : Hp} (e : Ex H H1) (e2 : Ex H1 H2) : Gr H H1 H H2 := ⟨Ex.refl H, e.trans e2, e2, fun _ h _ => h⟩
theorem Gr.trans {H H1 G H2 G' H3 : Hp} (a : Gr H H1 G H2) (b : Gr G H2 G' H3) : Gr H H1 G' H3 :=
  ⟨a.hg.trans b.hg, b.g2, a.h12.trans b.h12, fun x h1 h2 => b.sep x (a.sep x h1 h2) fun z => by
    cases q : H1 x with
    | none => exact h2 q
    | some o =>
      rw [a.h12 x o q] at z
      cases z⟩
theorem Gr.new {H H1 : Hp} {p : Addr} {o : HO} (e : Ex H H1) (hp : H1 p = none) : Gr H H1 (upd H p o) (upd H1 p o) := by
  have hp0 := fresh_back e hp
  refine ⟨Ex.new hp0, fun b u q => ?_, Ex.new hp, fun b h1 h2 => ?_⟩
  · by_cases c : b = p
    · subst c
      rw [upd_same] at q ⊢
      exact q
    · rw [upd_ne c] at q ⊢
      exact e b u q
  · by_cases c : b = p
    · subst c
      exact absurd hp h2
    · rw [upd_ne c]
      exact h1
/-- a new object that may change later: it is not known for good -/
theorem Gr.mut {H H1 : Hp} {p : Addr} {o : HO} (e : Ex H H1) (hp : H1 p = none) : Gr H H1 H (upd H1 p o) := .ex e (Ex.new hp)
/-- both of two heaps that stand in a third -/
def both (A B : Hp) : Hp := fun b => match A b with
  | some o => some o
  | none => B b
theorem both_l (A B : Hp) : Ex A (both A B) := fun b o h => by
  unfold both
  rw [h]
theorem both_r {A B C : Hp} (a : Ex A C) (b : Ex B C) : Ex B (both A B) := fun x o h => by
  unfold both
  cases q : A x with
  | none => exact h
  | some u =>
    have z1 := a x u q
    rw [b x o h] at z1
    exact z1.symm
theorem both_in {A B C : Hp} (a : Ex A C) (b : Ex B C) : Ex (both A B) C := fun x o h => by
  unfold both at h
  cases q : A x with
  | none =>
    rw [q] at h
    exact b x o h
  | some u =>
    rw [q] at h
    cases h
    exact a x _ q
theorem Gr.mono {H H' H1 G H2 : Hp} (x : Ex H H') (y : Ex H' H1) (g : Gr H H1 G H2) : Gr H' H1 (both H' G) H2 ∧ Ex G (both H' G) := by
  have y2 := y.trans g.h12
  refine ⟨⟨both_l H' G, both_in y2 g.g2, g.h12, fun b h1 h2 => ?_⟩, both_r y2 g.g2⟩
  unfold both
  rw [h1]
  refine g.sep b ?_ h2
  cases q : H b with
  | none => rfl
  | some o =>
    rw [x b o q] at h1
    cases h1

def EvD (K : PySem.W.Frag) (te : TE) (σ : L2.St) (H : Hp) (d : PyData) : Prop := ∀ H1, Ex H H1 → ∀ Q : VK, (∀ v G H2, Gr H H1 G H2 → Dp K G v d → Q v H2) → te σ H1 Q
def EvDA (K : PySem.W.Frag) (ta : TA) (σ : L2.St) (H : Hp) (ds : List PyData) : Prop := ∀ H1, Ex H H1 → ∀ Q : List V → Hp → Prop, (∀ vs G H2, Gr H H1 G H2 → DpAll K G vs ds → Q vs H2) → ta σ H1 Q
/-- a new list: G is what stands without it -/
def EvDL (K : PySem.W.Frag) (te : TE) (σ : L2.St) (H : Hp) (es : List PyData) : Prop := ∀ H1, Ex H H1 → ∀ Q : VK,
  (∀ p xs G H2, G p = none → H1 p = none → Gr H H1 G H2 → H2 p = some (.lst xs) → DpAll K G xs es → Q (.ref p) H2) → te σ H1 Q
def RD (K : PySem.W.Frag) (r : R2) (d e : PyData) (H : Hp) (z : PyData) : Prop := ∀ x y H1, Ex H H1 → Dp K H x d → Dp K H y e → ∀ Q : VK, (∀ v G H2, Gr H H1 G H2 → Dp K G v z → Q v H2) → r x y H1 Q
def RUD (K : PySem.W.Frag) (r : V → Hp → VK → Prop) (d : PyData) (H : Hp) (z : PyData) : Prop := ∀ x H1, Ex H H1 → Dp K H x d → ∀ Q : VK, (∀ v G H2, Gr H H1 G H2 → Dp K G v z → Q v H2) → r x H1 Q
def RCD (K : PySem.W.Frag) (r : List V → Hp → VK → Prop) (ds : List PyData) (H : Hp) (z : PyData) : Prop := ∀ vs H1, Ex H H1 → DpAll K H vs ds → ∀ Q : VK, (∀ v G H2, Gr H H1 G H2 → Dp K G v z → Q v H2) → r vs H1 Q
def RCDL (K : PySem.W.Frag) (r : List V → Hp → VK → Prop) (ds : List PyData) (H : Hp) (es : List PyData) : Prop := ∀ vs H1, Ex H H1 → DpAll K H vs ds → ∀ Q : VK,
  (∀ p xs G H2, G p = none → H1 p = none → Gr H H1 G H2 → H2 p = some (.lst xs) → DpAll K G xs es → Q (.ref p) H2) → r vs H1 Q
def SpD (K : PySem.W.Frag) (sp : Sp) (dvs : List V) (ds : List PyData) (z : PyData) : Prop := ∀ vs H H1, Ex H H1 → DpAll K H vs ds → ∀ (Q : VK) (E : XK), (∀ v G H2, Gr H H1 G H2 → Dp K G v z → Q v H2) → sp (vs ++ dvs) H1 Q E
def SpDL (K : PySem.W.Frag) (sp : Sp) (dvs : List V) (ds : List PyData) (es : List PyData) : Prop := ∀ vs H H1, Ex H H1 → DpAll K H vs ds → ∀ (Q : VK) (E : XK),
  (∀ p xs G H2, G p = none → H1 p = none → Gr H H1 G H2 → H2 p = some (.lst xs) → DpAll K G xs es → Q (.ref p) H2) → sp (vs ++ dvs) H1 Q E

/-! ### promises of defs that only read -/
def spP (K : PySem.W.Frag) (n : Nat) (R : List PyData → PyData → Prop) : Sp := fun vs H Q _ => ∃ B ds d, Ex B H ∧ ds.length = n ∧ DpAll K B vs ds ∧ R ds d ∧ ∀ v G H2, Gr B H G H2 → Dp K G v d → Q v H2
def spPL (K : PySem.W.Frag) (n : Nat) (R : List PyData → List PyData → Prop) : Sp := fun vs H Q _ => ∃ B ds es, Ex B H ∧ ds.length = n ∧ DpAll K B vs ds ∧ R ds es ∧
  ∀ p xs G H2, G p = none → H p = none → Gr B H G H2 → H2 p = some (.lst xs) → DpAll K G xs es → Q (.ref p) H2
theorem spP_len {K : PySem.W.Frag} {n : Nat} {R : List PyData → PyData → Prop} {ps : List Str} (hn : n = ps.length) : ∀ vs H Q E, spP K n R vs H Q E → vs.length = ps.length := fun vs H Q E h => by
  obtain ⟨B, ds, d, _, hl, hd, _⟩ := h
  rw [DpAll.length hd, hl, hn]
theorem spPL_len {K : PySem.W.Frag} {n : Nat} {R : List PyData → List PyData → Prop} {ps : List Str} (hn : n = ps.length) : ∀ vs H Q E, spPL K n R vs H Q E → vs.length = ps.length := fun vs H Q E h => by
  obtain ⟨B, ds, d, _, hl, hd, _⟩ := h
  rw [DpAll.length hd, hl, hn]

section
variable {K : PySem.W.Frag} {σ : L2.St} {H H' : Hp} {ta tb te tx : TE} {t u : TT} {d e z : PyData} {ds es : List PyData} {r : R2}
theorem EvD.mono (x : Ex H H') (h : EvD K te σ H d) : EvD K te σ H' d := fun H1 y Q q => h H1 (x.trans y) Q fun v G H2 g hd => q v _ H2 (g.mono x y).1 (dp_mono (g.mono x y).2 hd)
theorem EvDA.mono {ta : TA} (x : Ex H H') (h : EvDA K ta σ H ds) : EvDA K ta σ H' ds := fun H1 y Q q => h H1 (x.trans y) Q fun v G H2 g hd => q v _ H2 (g.mono x y).1 (dpa_mono (g.mono x y).2 hd)
theorem EvDL.mono (x : Ex H H') (h : EvDL K te σ H es) : EvDL K te σ H' es := fun H1 y Q q => h H1 (x.trans y) Q fun p xs G H2 g0 h0 g hp hd => q p xs _ H2 (by
  unfold both
  rw [fresh_back y h0]
  exact g0) h0 (g.mono x y).1 hp (dpa_mono (g.mono x y).2 hd)
/-- a new list is data, once it does not change any more -/
theorem gr_freeze {H H1 G H2 : Hp} {p : Addr} {xs : List V} (g0 : G p = none) (h0 : H1 p = none) (g : Gr H H1 G H2) (hp : H2 p = some (.lst xs)) : Gr H H1 (upd G p (.lst xs)) H2 := by
  refine ⟨g.hg.trans (Ex.new g0), fun b u q => ?_, g.h12, fun b h1 h2 => ?_⟩
  · by_cases c : b = p
    · subst c
      rw [upd_same] at q
      cases q
      exact hp
    · rw [upd_ne c] at q
      exact g.g2 b u q
  · by_cases c : b = p
    · subst c
      exact absurd h0 h2
    · rw [upd_ne c]
      exact g.sep b h1 h2
theorem dp_freeze {G : Hp} {p : Addr} {xs : List V} (g0 : G p = none) (h : DpAll K G xs es) : Dp K (upd G p (.lst xs)) (.ref p) (.list es) := .lst (sq_of upd_same) (dpa_mono (Ex.new g0) h)
theorem dl_d (h : EvDL K te σ H es) : EvD K te σ H (.list es) := fun H1 x Q q => h H1 x Q fun p xs G H2 g0 h0 g hp ha => q _ _ H2 (gr_freeze g0 h0 g hp) (dp_freeze g0 ha)
theorem d_is (h : EvD K te σ H d) (x : d = e) : EvD K te σ H e := x ▸ h
theorem d_var {i : Nat} {v : V} (h : σ[i]? = some (some v)) (hd : Dp K H v d) : EvD K (tVar i) σ H d := fun H1 x Q q => ⟨v, h, q v H H1 (.refl x) hd⟩
theorem d_int {i : Int} : EvD K (tC (.int i)) σ H (.int i) := fun H1 x _ q => q _ H H1 (.refl x) (.int i)
theorem d_bl {b : Bool} : EvD K (tC (.bl b)) σ H (.bool b) := fun H1 x _ q => q _ H H1 (.refl x) (.bl b)
theorem d_non : EvD K (tC .non) σ H .none := fun H1 x _ q => q _ H H1 (.refl x) .non
theorem d_str {x : Str} : EvD K (tC (.str x)) σ H (.str x) := fun H1 x _ q => q _ H H1 (.refl x) (.str _)
theorem d_op (ha : EvD K ta σ H d) (hb : EvD K tb σ H e) (hr : ∀ G, Ex H G → RD K r d e G z) : EvD K (tOp r ta tb) σ H z := fun H1 x Q q =>
  ha H1 x _ fun v G2 H2 g2 h2 => hb.mono g2.hg H2 g2.g2 _ fun w G3 H3 g3 h3 => hr G3 (g2.hg.trans g3.hg) v w H3 g3.g2 (dp_mono g3.hg h2) h3 Q fun y G4 H4 g4 h4 => q y G4 H4 ((g2.trans g3).trans g4) h4
theorem d_un {r : V → Hp → VK → Prop} (ha : EvD K ta σ H d) (hr : ∀ G, Ex H G → RUD K r d G z) : EvD K (tUn r ta) σ H z := fun H1 x Q q =>
  ha H1 x _ fun v G2 H2 g2 h2 => hr G2 g2.hg v H2 g2.g2 h2 Q fun y G4 H4 g4 h4 => q y G4 H4 (g2.trans g4) h4
theorem rd_I0 {g : Int → Int → V} {i j : Int} (hz : ∀ H, Dp K H (g i j) z) : RD K (rI0 g) (.int i) (.int j) H z := fun x y H1 e hx hy Q q => ⟨i, j, hx.int_of, hy.int_of, q _ H H1 (.refl e) (hz H)⟩
theorem rd_int {g : Int → Int → Int} {i j : Int} : RD K (rI0 fun i j => .int (g i j)) (.int i) (.int j) H (.int (g i j)) := rd_I0 fun _ => .int _
theorem rd_cmp {g : Int → Int → Bool} {i j : Int} : RD K (rI0 fun i j => .bl (g i j)) (.int i) (.int j) H (.bool (g i j)) := rd_I0 fun _ => .bl _
theorem rd_intC {C : Int → Int → Prop} {g : Int → Int → Int} {i j : Int} (hc : C i j) : RD K (rI C fun i j => .int (g i j)) (.int i) (.int j) H (.int (g i j)) := fun x y H1 e hx hy Q q => ⟨i, j, hx.int_of, hy.int_of, hc, q _ H H1 (.refl e) (.int _)⟩
/-- scalars that may be compared: both ints, both texts, both bools, or one of them None -/
def scalD : PyData → PyData → Bool
  | .none, .none => true
  | .none, .int _ => true
  | .int _, .none => true
  | .none, .bool _ => true
  | .bool _, .none => true
  | .none, .str _ => true
  | .str _, .none => true
  | .int _, .int _ => true
  | .bool _, .bool _ => true
  | .str _, .str _ => true
  | _, _ => false
def eqS : PyData → PyData → Bool
  | .none, .none => true
  | .int i, .int j => decide (i = j)
  | .bool i, .bool j => decide (i = j)
  | .str i, .str j => decide (i = j)
  | _, _ => false
theorem scal_of {x y : V} (hx : Dp K H x d) (hy : Dp K H y e) (h : scalD d e = true) : scal x y = true ∧ decide (x = y) = eqS d e := by
  cases d <;> cases e <;> (first | (exfalso; exact Bool.noConfusion (show false = true from h)) | skip)
  · rw [hx.non_of, hy.non_of]; exact ⟨rfl, rfl⟩
  · rw [hx.non_of, hy.bl_of]; exact ⟨rfl, rfl⟩
  · rw [hx.non_of, hy.int_of]; exact ⟨rfl, rfl⟩
  · rw [hx.non_of, hy.str_of]; exact ⟨rfl, rfl⟩
  · rw [hx.bl_of, hy.non_of]; exact ⟨rfl, rfl⟩
  · rename_i a b
    rw [hx.bl_of, hy.bl_of]
    exact ⟨rfl, decide_eq_decide.mpr ⟨fun z => V.bl.inj z, fun z => by rw [z]⟩⟩
  · rw [hx.int_of, hy.non_of]; exact ⟨rfl, rfl⟩
  · rename_i a b
    rw [hx.int_of, hy.int_of]
    exact ⟨rfl, decide_eq_decide.mpr ⟨fun z => V.int.inj z, fun z => by rw [z]⟩⟩
  · rw [hx.str_of, hy.non_of]; exact ⟨rfl, rfl⟩
  · rename_i a b
    rw [hx.str_of, hy.str_of]
    exact ⟨rfl, decide_eq_decide.mpr ⟨fun z => V.str.inj z, fun z => by rw [z]⟩⟩
theorem rd_eq (h : scalD d e = true) : RD K rEq d e H (.bool (eqS d e)) := fun x y H1 ex hx hy Q q => by
  obtain ⟨h1, h2⟩ := scal_of hx hy h
  refine ⟨h1, ?_⟩
  rw [h2]
  exact q _ H H1 (.refl ex) (.bl _)
theorem rd_ne (h : scalD d e = true) : RD K rNe d e H (.bool (!eqS d e)) := fun x y H1 ex hx hy Q q => by
  obtain ⟨h1, h2⟩ := scal_of hx hy h
  refine ⟨h1, ?_⟩
  rw [h2]
  exact q _ H H1 (.refl ex) (.bl _)
def isNonD : PyData → Bool
  | .none => true
  | _ => false
theorem non_iff {x : V} (hx : Dp K H x d) : decide (x = .non) = isNonD d := by
  cases hx <;> rfl
theorem rd_isN : RD K (fun x y H Q => y = .non ∧ Q (.bl (decide (x = .non))) H) d .none H (.bool (isNonD d)) := fun x y H1 ex hx hy Q q => by
  refine ⟨hy.non_of, ?_⟩
  rw [non_iff hx]
  exact q _ H H1 (.refl ex) (.bl _)
theorem rd_notN : RD K (fun x y H Q => y = .non ∧ Q (.bl (!decide (x = .non))) H) d .none H (.bool (!isNonD d)) := fun x y H1 ex hx hy Q q => by
  refine ⟨hy.non_of, ?_⟩
  rw [non_iff hx]
  exact q _ H H1 (.refl ex) (.bl _)
theorem rd_eqD (h1 : SeqAt.shaped d = true) (h2 : SeqAt.shaped e = true) : RD K (rEqD K) d e H (.bool (PyData.eqv d e)) := fun x y H1 ex hx hy Q q => ⟨d, e, dp_mono ex hx, dp_mono ex hy, h1, h2, q _ H H1 (.refl ex) (.bl _)⟩
theorem rd_neD (h1 : SeqAt.shaped d = true) (h2 : SeqAt.shaped e = true) : RD K (rNeD K) d e H (.bool (!PyData.eqv d e)) := fun x y H1 ex hx hy Q q => ⟨d, e, dp_mono ex hx, dp_mono ex hy, h1, h2, q _ H H1 (.refl ex) (.bl _)⟩
theorem rd_isBl {a b : Bool} : RD K rIsB (.bool a) (.bool b) H (.bool (decide (a = b))) := fun x y H1 ex hx hy Q q => ⟨a, b, hx.bl_of, hy.bl_of, q _ H H1 (.refl ex) (.bl _)⟩
theorem rd_notBl {a b : Bool} : RD K rNotB (.bool a) (.bool b) H (.bool (!decide (a = b))) := fun x y H1 ex hx hy Q q => ⟨a, b, hx.bl_of, hy.bl_of, q _ H H1 (.refl ex) (.bl _)⟩
theorem rud_neg {i : Int} : RUD K (rU fun i => .int (-i)) (.int i) H (.int (-i)) := fun x H1 ex hx Q q => ⟨i, hx.int_of, q _ H H1 (.refl ex) (.int _)⟩

theorem da_nil : EvDA K tNil σ H [] := fun H1 x _ q => q [] H H1 (.refl x) .nil
theorem da_cons {tr : TA} (h : EvD K ta σ H d) (hr : EvDA K tr σ H ds) : EvDA K (tCons ta tr) σ H (d :: ds) := fun H1 x _ q =>
  h H1 x _ fun v G2 H2 g2 h2 => hr.mono g2.hg H2 g2.g2 _ fun vs G3 H3 g3 h3 => q (v :: vs) G3 H3 (g2.trans g3) (.cons (dp_mono g3.hg h2) h3)
theorem d_cb {r : List V → Hp → VK → Prop} {ta : TA} (h : EvDA K ta σ H ds) (hr : ∀ G, Ex H G → RCD K r ds G z) : EvD K (tCB r ta) σ H z := fun H1 x Q q =>
  h H1 x _ fun vs G2 H2 g2 h2 => hr G2 g2.hg vs H2 g2.g2 h2 Q fun v G3 H3 g3 h3 => q v G3 H3 (g2.trans g3) h3
theorem dl_cb {r : List V → Hp → VK → Prop} {ta : TA} (h : EvDA K ta σ H ds) (hr : ∀ G, Ex H G → RCDL K r ds G es) : EvDL K (tCB r ta) σ H es := fun H1 x Q q =>
  h H1 x _ fun vs G2 H2 g2 h2 => hr G2 g2.hg vs H2 g2.g2 h2 Q fun p xs G3 H3 g0 h0 g3 h3 h4 => q p xs G3 H3 g0 (fresh_back g2.h12 h0) (g2.trans g3) h3 h4
theorem d_call {sp : Sp} {dvs : List V} {E : XK} {ta : TA} (h : EvDA K ta σ H ds) (hs : SpD K sp dvs ds z) : EvD K (tCall sp dvs E ta) σ H z := fun H1 x Q q =>
  h H1 x _ fun vs G2 H2 g2 h2 => hs vs G2 H2 g2.g2 h2 Q E fun v G3 H3 g3 h3 => q v G3 H3 (g2.trans g3) h3
theorem dl_call {sp : Sp} {dvs : List V} {E : XK} {ta : TA} (h : EvDA K ta σ H ds) (hs : SpDL K sp dvs ds es) : EvDL K (tCall sp dvs E ta) σ H es := fun H1 x Q q =>
  h H1 x _ fun vs G2 H2 g2 h2 => hs vs G2 H2 g2.g2 h2 Q E fun p xs G H3 g0 h0 g1 h3 h4 => q p xs G H3 g0 (fresh_back g2.h12 h0) (g2.trans g1) h3 h4
theorem sp_P {n : Nat} {R : List PyData → PyData → Prop} (hn : ds.length = n) (h : R ds z) : SpD K (spP K n R) [] ds z := fun vs H H1 x hd Q E q => ⟨H, ds, z, x, hn, by rw [List.append_nil]; exact hd, h, q⟩
theorem sp_PL {n : Nat} {R : List PyData → List PyData → Prop} (hn : ds.length = n) (h : R ds es) : SpDL K (spPL K n R) [] ds es := fun vs H H1 x hd Q E q => ⟨H, ds, es, x, hn, by rw [List.append_nil]; exact hd, h, q⟩
/-- displays -/
theorem d_tup {ta : TA} (h : EvDA K ta σ H ds) (hl : ds.length ≤ 100000) : EvD K (tTup ta) σ H (.tuple ds) := fun H1 x _ q =>
  h H1 x _ fun vs G2 H2 g2 h2 => ⟨sz_of (by rw [DpAll.length h2]; exact hl), fun p hp => q _ _ _ (g2.trans (Gr.new g2.g2 hp)) (.tup (st_of upd_same) (dpa_mono (Ex.new (fresh_back g2.g2 hp)) h2))⟩
theorem dl_lst {ta : TA} (h : EvDA K ta σ H ds) (hl : ds.length ≤ 100000) : EvDL K (tLst ta) σ H ds := fun H1 x _ q =>
  h H1 x _ fun vs G2 H2 g2 h2 => ⟨sz_of (by rw [DpAll.length h2]; exact hl), fun p hp => q p vs G2 _ (fresh_back g2.g2 hp) (fresh_back g2.h12 hp) (g2.trans (Gr.mut g2.g2 hp)) upd_same h2⟩
/-- tests -/
theorem t_val {b : Bool} (h : EvD K te σ H (.bool b)) : EvT (tB te) σ H b := fun H1 x Q q => h H1 x _ fun v G H2 g h2 => ⟨b, h2.bl_of, q H2 g.h12⟩
theorem d_if {b : Bool} (h : EvT t σ H b) (h1 : b = true → EvD K ta σ H d) (h2 : b = false → EvD K tb σ H d) : EvD K (tIf t ta tb) σ H d := fun H1 x Q q => h H1 x _ fun H2 e2 => by
  cases b with
  | true => exact h1 rfl H2 (x.trans e2) Q fun v G H3 g h3 => q v G H3 ⟨g.hg, g.g2, e2.trans g.h12, fun b y1 y2 => g.sep b y1 fun z => y2 (fresh_back e2 z)⟩ h3
  | false => exact h2 rfl H2 (x.trans e2) Q fun v G H3 g h3 => q v G H3 ⟨g.hg, g.g2, e2.trans g.h12, fun b y1 y2 => g.sep b y1 fun z => y2 (fresh_back e2 z)⟩ h3
theorem d_and {a b : Bool} (h1 : EvD K ta σ H (.bool a)) (h2 : a = true → EvD K tb σ H (.bool b)) : EvD K (tAndV ta tb) σ H (.bool (a && b)) := fun H1 x Q q => h1 H1 x _ fun v G2 H2 g2 hv => ⟨a, hv.bl_of, by
  cases a with
  | true => exact (h2 rfl).mono g2.hg H2 g2.g2 Q fun w G3 H3 g3 h3 => q w G3 H3 (g2.trans g3) h3
  | false => exact q _ G2 H2 g2 (.bl false)⟩
theorem d_or {a b : Bool} (h1 : EvD K ta σ H (.bool a)) (h2 : a = false → EvD K tb σ H (.bool b)) : EvD K (tOrV ta tb) σ H (.bool (a || b)) := fun H1 x Q q => h1 H1 x _ fun v G2 H2 g2 hv => ⟨a, hv.bl_of, by
  cases a with
  | false => exact (h2 rfl).mono g2.hg H2 g2.g2 Q fun w G3 H3 g3 h3 => q w G3 H3 (g2.trans g3) h3
  | true => exact q _ G2 H2 g2 (.bl true)⟩
theorem d_not {a : Bool} (h1 : EvD K ta σ H (.bool a)) : EvD K (tNotV ta) σ H (.bool (!a)) := fun H1 x Q q => h1 H1 x _ fun v G2 H2 g2 hv => ⟨a, hv.bl_of, q _ G2 H2 g2 (.bl _)⟩
end

/-! ### statements: B is what is known for good -/
section
variable {K : PySem.W.Frag} {σ : L2.St} {B H H' : Hp} {ta tb te tx : TE} {t u : TT} {d e z : PyData} {ds es : List PyData} {D : Ends} {tu tw tz : TS} {g : TG}
theorem sd_asg {i : Nat} (x : Ex B H) (h : EvD K te σ B d) (k : ∀ v G H1, Gr B H G H1 → Dp K G v d → D.nx (σ.set i (some v)) H1) : tAsg te (gName i) D σ H := h H x _ k
theorem sd_ret (x : Ex B H) (h : EvD K te σ B d) (k : ∀ v G H1, Gr B H G H1 → Dp K G v d → D.rt v H1) : tRet te D σ H := h H x _ k
theorem sd_retL (x : Ex B H) (h : EvDL K te σ B es) (k : ∀ p xs G H2, G p = none → H p = none → Gr B H G H2 → H2 p = some (.lst xs) → DpAll K G xs es → D.rt (.ref p) H2) : tRet te D σ H := h H x _ k
theorem sd_asgL {i : Nat} (x : Ex B H) (h : EvDL K te σ B es) (k : ∀ p xs G H2, G p = none → H p = none → Gr B H G H2 → H2 p = some (.lst xs) → DpAll K G xs es → D.nx (σ.set i (some (.ref p))) H2) : tAsg te (gName i) D σ H := h H x _ k
theorem sd_drop (x : Ex B H) (h : EvD K te σ B d) (k : ∀ H1, Ex H H1 → D.nx σ H1) : tDrop te D σ H := h H x _ fun _ G H1 g _ => k H1 g.h12
theorem qd_asg {i : Nat} (x : Ex B H) (h : EvD K te σ B d) (k : ∀ v G H1, Gr B H G H1 → Dp K G v d → tz D (σ.set i (some v)) H1) : tSeq (tAsg te (gName i)) tz D σ H := sd_asg (D := { D with nx := tz D }) x h k
theorem qd_asgL {i : Nat} (x : Ex B H) (h : EvDL K te σ B es) (k : ∀ p xs G H2, G p = none → H p = none → Gr B H G H2 → H2 p = some (.lst xs) → DpAll K G xs es → tz D (σ.set i (some (.ref p))) H2) : tSeq (tAsg te (gName i)) tz D σ H := sd_asgL (D := { D with nx := tz D }) x h k
theorem qd_drop (x : Ex B H) (h : EvD K te σ B d) (k : ∀ H1, Ex H H1 → tz D σ H1) : tSeq (tDrop te) tz D σ H := sd_drop (D := { D with nx := tz D }) x h k
theorem sd_if {b : Bool} (x : Ex B H) (h : EvT t σ B b) (h1 : b = true → ∀ H1, Ex H H1 → tu D σ H1) (h2 : b = false → ∀ H1, Ex H H1 → tw D σ H1) : tIfS t tu tw D σ H := s_if (fun H1 a Q q => h H1 (x.trans a) Q q) h1 h2
theorem qd_if {b : Bool} (x : Ex B H) (h : EvT t σ B b) (h1 : b = true → ∀ H1, Ex H H1 → tu { D with nx := tz D } σ H1) (h2 : b = false → ∀ H1, Ex H H1 → tw { D with nx := tz D } σ H1) : tSeq (tIfS t tu tw) tz D σ H := sd_if (D := { D with nx := tz D }) x h h1 h2
theorem qd_when {b : Bool} (x : Ex B H) (h : EvT t σ B b) (h1 : b = true → ∀ H1, Ex H H1 → tu { D with nx := tz D } σ H1) (h2 : b = false → ∀ H1, Ex H H1 → tz D σ H1) : tSeq (tIfS t tu tNext) tz D σ H := sd_if (D := { D with nx := tz D }) x h h1 h2
theorem sd_when {b : Bool} (x : Ex B H) (h : EvT t σ B b) (h1 : b = true → ∀ H1, Ex H H1 → tu D σ H1) (h2 : b = false → ∀ H1, Ex H H1 → D.nx σ H1) : tIfS t tu tNext D σ H := sd_if x h h1 h2
/-- if a: (never) -/
theorem qd_no {y : TS} (x : Ex B H) (h : EvT t σ B false) (k : ∀ H1, Ex H H1 → tz D σ H1) : tSeq (tIfS t y tNext) tz D σ H := qd_when x h (fun z => Bool.noConfusion z) fun _ => k
theorem sd_no {y : TS} (x : Ex B H) (h : EvT t σ B false) (k : ∀ H1, Ex H H1 → D.nx σ H1) : tIfS t y tNext D σ H := sd_when x h (fun z => Bool.noConfusion z) fun _ => k
end

/-! ### a row that is walked, a row that is unpacked -/
def iRow (K : PySem.W.Frag) (tl : TE) : TI := fun σ H R => tl σ H fun x H1 => ∃ a, x = .ref a ∧ (((∃ xs, SqL K H1 a xs) ∧ R (Itl K a) H1) ∨ ((∃ xs, SqT K H1 a xs) ∧ R (Itt K a) H1))
theorem pi_row {X : Cx} {tg l : Expr} {tl : TE} (hl : PE X l tl) : PI X tg l (iRow X.K tl) := by
  refine ⟨fun pns st σ H R I0 h => thn (hl.run pns st σ H _ I0 h) fun u st1 ⟨x, Hn, In, rx, q1⟩ => ?_⟩
  obtain ⟨a, ex, q⟩ := q1
  subst ex
  cases rx
  have fresh : ∀ b ∈ [st1.heap.objs.size], FpOk X pns Hn b := fun b hb => by
    rw [List.mem_singleton.mp hb]
    exact In.fpOk (Nat.le_refl _) (In.hok.fresh (Nat.le_refl _))
  rcases q with ⟨⟨xs, hq⟩, q⟩ | ⟨⟨xs, hq⟩, q⟩
  · obtain ⟨its, _, pl, _⟩ := In.list hq
    exact wpAny_pyIter_list pl.isList ⟨_, [st1.heap.objs.size], _, _, Hn, rfl, In.kept (t' := st1.toks) (fun _ _ z => Heap.get?_push_of_some _ z), turn_list a _, ⟨_, Heap.get?_push_size _ rfl, rfl, rfl⟩, fresh, q⟩
  · obtain ⟨its, _, pl, _⟩ := In.tuple hq
    exact wpAny_pyIter_tuple (show st1.heap.IsTuple a its.toArray from pl) ⟨_, [st1.heap.objs.size], _, _, Hn, rfl, In.kept (t' := st1.toks) (fun _ _ z => Heap.get?_push_of_some _ z), turn_tuple a _, ⟨_, Heap.get?_push_size _ rfl, rfl, rfl⟩, fresh, q⟩
def gRow (K : PySem.W.Frag) (n : Nat) (t : TGs) : TG := fun v σ H Q => ∃ a xs, v = .ref a ∧ Row K H a xs ∧ xs.length = n ∧ t xs σ H Q
theorem pg_row {X : Cx} {pos : Pos} {es : List Expr} {k : Nat} {t : TGs} {n : Nat} (hc : X.calm = true) (h : PGs X es t)
    (hn : (assignEach es X.env).length = n := by rfl) (hst : (assignEach es X.env).findIdx? (·.1) = none := by rfl) : PG X (.Tuple es k pos) (gRow X.K n t) := by
  refine ⟨fun pins s σ H v u Q I r hw => ?_⟩
  obtain ⟨a, xs, e1, hq, hl, hw⟩ := hw
  rcases hq with hq | hq
  · exact (pg_unl hc h hn hst).run pins s σ H v u Q I r ⟨a, xs, e1, hq, hl, hw⟩
  · exact (pg_tup hc h hn hst).run pins s σ H v u Q I r ⟨a, xs, e1, hq, hl, hw⟩
/-- (i, j) = a pair -/
theorem g_pair {K : PySem.W.Frag} {H : Hp} {σ : L2.St} {v : V} {b : Bool} {d e : PyData} {i j : Nat} {Q : L2.St → Hp → Prop} (h : Dp K H v (rows b [d, e]))
    (k : ∀ x y, Dp K H x d → Dp K H y e → Q ((σ.set i (some x)).set j (some y)) H) : gRow K 2 (gCons (gName i) (gCons (gName j) gNil)) v σ H Q := by
  obtain ⟨a, xs, e1, hr, ha⟩ := row_of h
  cases ha with
  | cons h1 a1 =>
    cases a1 with
    | cons h2 a2 =>
      cases a2
      exact ⟨a, _, e1, hr, rfl, _, _, rfl, _, _, rfl, rfl, k _ _ h1 h2⟩

section
variable {K : PySem.W.Frag} {σ : L2.St} {G H H' : Hp} {D : Ends} {tu tz : TS} {g : TG} {ds : List PyData} {b : Bool} {v : V}
/-- for .. in a row that G knows, at the j-th slot -/
theorem sd_for {j : Nat} (e : Ex G H) (hd : Dp K G v (rows b ds)) (hv : σ[j]? = some (some v)) (Pv : Nat → L2.St → Hp → Prop) (h0 : Pv 0 σ H) (hG : ∀ i σ' H', i ≤ ds.length → Pv i σ' H' → Ex G H')
    (hs : ∀ i d x σ' H', ds[i]? = some d → Dp K G x d → Pv i σ' H' → g x σ' H' fun σ2 H2 => tu { D with nx := Pv (i + 1), ct := Pv (i + 1), bk := D.nx } σ2 H2)
    (hn : ∀ σ' H', Pv ds.length σ' H' → D.nx σ' H') : tFor (iRow K (tVar j)) g tu D σ H := by
  obtain ⟨a, xs, rfl, hr, ha⟩ := row_of hd
  have hl := ha.length
  refine ⟨_, hv, a, rfl, ?_⟩
  rcases hr with hr | hr
  · refine .inl ⟨⟨xs, ex_l e hr⟩, for_list (xs := xs) Pv h0 (fun i σ' H' hi p => ex_l (hG i σ' H' (by omega) p) hr) (fun i x σ' H' hx p => ?_) (by rw [hl]; exact hn)⟩
    obtain ⟨d, h1, h2⟩ := ha.get hx
    exact hs i d x σ' H' h1 h2 p
  · refine .inr ⟨⟨xs, ex_t e hr⟩, for_tup (xs := xs) Pv h0 (fun i σ' H' hi p => ex_t (hG i σ' H' (by omega) p) hr) (fun i x σ' H' hx p => ?_) (by rw [hl]; exact hn)⟩
    obtain ⟨d, h1, h2⟩ := ha.get hx
    exact hs i d x σ' H' h1 h2 p
theorem qd_for {j : Nat} (e : Ex G H) (hd : Dp K G v (rows b ds)) (hv : σ[j]? = some (some v)) (Pv : Nat → L2.St → Hp → Prop) (h0 : Pv 0 σ H) (hG : ∀ i σ' H', i ≤ ds.length → Pv i σ' H' → Ex G H')
    (hs : ∀ i d x σ' H', ds[i]? = some d → Dp K G x d → Pv i σ' H' → g x σ' H' fun σ2 H2 => tu { D with nx := Pv (i + 1), ct := Pv (i + 1), bk := tz D } σ2 H2)
    (hn : ∀ σ' H', Pv ds.length σ' H' → tz D σ' H') : tSeq (tFor (iRow K (tVar j)) g tu) tz D σ H := sd_for (D := { D with nx := tz D }) e hd hv Pv h0 hG hs hn
end
end Tb
end

section
set_option Elab.async false
set_option linter.all false
set_option maxRecDepth 100000
set_option maxHeartbeats 1000000
/-! Toss base 3: enumerate over a row, with a start or none. -/
namespace Tb
open PySem PySem.Spec PyProof.Rows L2 Evl

theorem meets_enum1 {v : Value} {ob : Obj} {Hs : Heap → Prop} (B : Begins v ob Hs) :
    Meets (Builtin.«enumerate.__new__» ⟨[.type "enumerate", v], []⟩) (fun _ Rr st => Hs st.heap ∧
      Rr (.ok (.ret (.ref (st.heap.push ob).objs.size))) { st with heap := (st.heap.push ob).push { cls := .type "enumerate", data := .fields #[.none, .bool false, .ref st.heap.objs.size, rawInt 0, .none, .none] } }) :=
  .of_wp fun prog w A R st hh => by
    obtain ⟨hp, gg, dd, tk, os⟩ := st
    obtain ⟨h1, hh⟩ := hh
    have hsub := sub_enumerate
    have q1 : ∀ {A' : Around} {E' : Value → Shared → Prop} {Q' : Value → Shared → Prop}, Q' (.ref hp.objs.size) ⟨hp.push ob, gg, dd, tk, os⟩ → wpAny (model prog w) A' (pyIter v) Q' E' ⟨hp, gg, dd, tk, os⟩ :=
      fun q => B.iter prog w _ _ ⟨hp, gg, dd, tk, os⟩ _ h1 q
    wp_walk using q1
    refine wpAny_stack_any fun _ => wpAny_pure ?_
    split
    · rename_i cc _ _ _ _ _
      cases (cc == Value.type "enumerate") <;> (wp_walk using q1; exact ⟨_, rfl, hh⟩)
    · wp_walk using q1
      exact ⟨_, rfl, hh⟩
theorem enum_begins1 {prog : Program} {w : World} {A : Around} {E : Value → Shared → Prop} {st : Shared} {v : Value} {ob : Obj} {Hs : Heap → Prop} {Q : Value → Shared → Prop} (B : Begins v ob Hs) (h1 : Hs st.heap)
    (k : ∀ h', IsEnum h' (st.heap.objs.size + 1) st.heap.objs.size 0 .none → h'.get? st.heap.objs.size = some ob → (∀ b u, st.heap.get? b = some u → h'.get? b = some u) → Q (.ref (st.heap.objs.size + 1)) { st with heap := h' }) :
    wpAny (model prog w) A (call (.type "enumerate") [v]) Q E st := by
  refine callType_new F.called_enumerate (by decide) (F.typeCall_enumerate_1 _) (F.newCall_enumerate_1 _) (fun u => F.args_object_init_2 u _) F.entry_enumerate_new (meets_enum1 B) ⟨h1, ?_⟩
  have hz : (st.heap.push ob).objs.size = st.heap.objs.size + 1 := Heap.size_push ..
  show _ ∧ _
  rw [hz]
  have he : IsEnum ((st.heap.push ob).push { cls := .type "enumerate", data := .fields #[.none, .bool false, .ref st.heap.objs.size, rawInt 0, .none, .none] }) (st.heap.objs.size + 1) st.heap.objs.size 0 .none := by
    have z := Heap.get?_push_size (st.heap.push ob) (o := { cls := .type "enumerate", data := .fields #[.none, .bool false, .ref st.heap.objs.size, rawInt 0, .none, .none] }) rfl
    rw [hz] at z
    exact z
  exact ⟨⟨_, he, rfl⟩, k _ he (Heap.get?_push_of_some _ (Heap.get?_push_size _ B.free)) fun b u z => Heap.get?_push_of_some _ (Heap.get?_push_of_some _ z)⟩

/-! ### the turns -/
def IteL (K : PySem.W.Frag) (a : Addr) (k0 : Int) : It :=
  ⟨fun i H => ∃ xs x, SqL K H a xs ∧ xs[i]? = some x, fun i H v H' => ∃ T x, v = .ref T ∧ H T = none ∧ H' = upd H T (.tup [.int (k0 + (i : Nat)), x]) ∧ ∀ xs, SqL K H a xs → xs[i]? = some x, fun i H => ∃ xs, SqL K H a xs ∧ xs.length = i⟩
def IteT (K : PySem.W.Frag) (a : Addr) (k0 : Int) : It :=
  ⟨fun i H => ∃ xs x, SqT K H a xs ∧ xs[i]? = some x, fun i H v H' => ∃ T x, v = .ref T ∧ H T = none ∧ H' = upd H T (.tup [.int (k0 + (i : Nat)), x]) ∧ ∀ xs, SqT K H a xs → xs[i]? = some x, fun i H => ∃ xs, SqT K H a xs ∧ xs.length = i⟩
/-- one turn, whatever is walked -/
theorem enum_turn {X : Cx} {pins : List (Addr × Obj)} {σ : L2.St} {H : Hp} {st : Shared} {E : Value → Shared → Prop} {elts : List Expr} {kk : Nat} {tpos : Pos} {e it : Addr} {fp : List Addr} {n i : Nat} {P : Nat → Value → Prop} {Sx : Nat → Heap → Prop} {k0 : Int} {x : V}
    (I : Inv X pins σ H st) (D : Draws X.prog X.w X.A.in1 it fp n P Sx) (hf : ∀ b ∈ [e, it], FpOk X pins H b) (he : ∃ old, IsEnum st.heap e it (k0 + (i : Nat)) old) (hs : Sx i st.heap) (hi : i < n) (hne : e ≠ it) (hef : e ∉ fp) (hr : ∀ u, P i u → RelV x u)
    {R : Heap → Prop} (keepR : ∀ h h', Sx (i + 1) h → Heap.SameBut e h h' → R h') :
    wpAny (model X.prog X.w) X.A (pyNext (.ref e)) (fun r s1 => ∃ u, r = some u ∧
      wpAny (model X.prog X.w) X.A (letOwnedTupleGo (.Tuple elts kk tpos) (.ref e) u) (fun _ s2 => ∃ v H', Inv X pins σ H' s2 ∧ RelV v u ∧ (∃ T, v = .ref T ∧ H T = none ∧ H' = upd H T (.tup [.int (k0 + (i : Nat)), x])) ∧
        ((∃ old, IsEnum s2.heap e it (k0 + ((i + 1 : Nat) : Int)) old) ∧ R s2.heap) ∧ ∀ b ∈ [e, it], H' b = none) E s1) E st := by
  obtain ⟨old, he⟩ := he
  have hel : e < st.heap.objs.size := Heap.lt_size he
  have hil : it < st.heap.objs.size := by
    obtain ⟨_, z⟩ := D.live _ _ hs
    exact Heap.lt_size z
  refine wpAny_pyNext_enum_itemC D he hs hi hne hef fun u h' tk hP ho hs' hT hsz hk => ?_
  refine ⟨_, rfl, wpAny_letOwnedTupleGo_enum (s := { st with heap := h', toks := tk + 1 }) ho fun h2 he2 sb => ?_⟩
  have hT2 : h2.get? st.heap.objs.size = some { cls := .type "tuple", data := .seq #[.int (k0 + (i : Nat)) tk, u] } := (sb.2 _ (Nat.ne_of_gt hel)).trans hT
  have new : ObjOk X.prog X.w (upd H st.heap.objs.size (.tup [.int (k0 + (i : Nat)), x])) h2 st.heap.objs.size (.tup [.int (k0 + (i : Nat)), x]) :=
    ⟨by show 2 ≤ sizeLine; decide, [.int (k0 + (i : Nat)) tk, u], .cons ⟨_, rfl⟩ (.cons (hr u hP) .nil), ⟨_, hT2, rfl, _, rfl⟩⟩
  have I1 : Inv X pins σ (upd H st.heap.objs.size (.tup [.int (k0 + (i : Nat)), x])) { st with heap := h2, toks := tk + 1 } :=
    I.turnedNew (ch := [e, it]) (fun b ob hb q => (sb.2 b (fun z => hb (by simp [z]))).trans (hk b ob (fun z => hb (by simp [z])) (fun z => hb (by simp [z])) q)) hf (Nat.le_refl _) new
  refine ⟨.ref st.heap.objs.size, _, I1, rfl, ⟨_, rfl, I.hok.fresh (Nat.le_refl _), rfl⟩, ⟨⟨u, ?_⟩, keepR _ _ hs' sb⟩, fun b hb => ?_⟩
  · have e1 : k0 + ((i + 1 : Nat) : Int) = k0 + (i : Nat) + 1 := by omega
    rw [e1]
    exact he2
  · have hb' : b < st.heap.objs.size := by
      have z : b = e ∨ b = it := by simpa using hb
      rcases z with z | z
      · rw [z]; exact hel
      · rw [z]; exact hil
    rw [upd_ne (Nat.ne_of_lt hb')]
    exact (hf b hb).1
theorem turn_enumL {P : Program} {w : World} {K : PySem.W.Frag} {elts : List Expr} {kk : Nat} {tpos : Pos} (k0 : Int) (a e it : Addr) (hae : a ≠ e) (hai : a ≠ it) :
    Turn P w K (.Tuple elts kk tpos) (IteL K a k0) [e, it] e (fun i h => (∃ old, IsEnum h e it (k0 + (i : Nat)) old) ∧ h.IsListIter it a i ∧ e ≠ it) where
  mem := by simp
  obj := fun i h z b hb => by
    obtain ⟨⟨old, he⟩, ⟨o, ho, hc, hd⟩, _⟩ := z
    have e' : b = e ∨ b = it := by simpa using hb
    rcases e' with z | z
    · rw [z]; exact ⟨_, he, fun v q => nomatch q⟩
    · rw [z]; exact ⟨o, ho, fun v q => by rw [hd] at q; cases q⟩
  keep := fun i h h' z k => by
    obtain ⟨⟨old, he⟩, hi, hne⟩ := z
    exact ⟨⟨old, k e (by simp) _ he⟩, hi.at fun o q => k it (by simp) o q, hne⟩
  item := by
    intro X hP hw hK hc i pins s σ H E I hf st hg
    subst hP hw hK
    obtain ⟨he, hit, hne⟩ := st
    obtain ⟨xs, x, hq, hx⟩ := hg
    obtain ⟨its, rv, p, hz⟩ := I.list hq
    obtain ⟨u, hu, ru⟩ := rv.get hx
    have hul : its.toArray[i]? = some u := by simpa using hu
    have hlt : i < its.toArray.size := (Array.getElem?_eq_some_iff.mp hul).1
    refine wpAny_mono (enum_turn (elts := elts) (kk := kk) (tpos := tpos) (R := fun h => h.IsListIter it a (i + 1)) I (Draws.list (by exact I.ok.hd hc) it a hai its.toArray) hf he ⟨hit, p.isList⟩ hlt hne (by simp [hne, hae.symm]) (x := x) (fun u' h' => ?_) (fun h h' hs sb => hs.1.at fun o q => (sb.2 it hne.symm).trans q)) (fun r s1 h => ?_) fun _ _ z => z
    · have e1 : u' = u := Option.some.inj (h'.symm.trans hul)
      rw [e1]
      exact ru
    · obtain ⟨u', er, q⟩ := h
      refine ⟨u', er, wpAny_mono q (fun _ s2 h2 => ?_) fun _ _ z => z⟩
      obtain ⟨v, H', I', rv', ⟨T, e1, e2, e3⟩, ⟨z1, z2⟩, z3⟩ := h2
      exact ⟨v, H', I', rv', ⟨T, x, e1, e2, e3, fun ys hy => by rw [I.list_inj hy hq]; exact hx⟩, ⟨z1, z2, hne⟩, z3⟩
  done := by
    intro X hP hw hK hc i pins s σ H E I hf st hg
    subst hP hw hK
    obtain ⟨⟨old, he⟩, hit, hne⟩ := st
    obtain ⟨xs, hq, hx⟩ := hg
    obtain ⟨its, rv, p, hz⟩ := I.list hq
    obtain ⟨f0, f1, f2, f3, f4, f5⟩ := hf it (by simp)
    have hl : i = its.toArray.size := by
      have := rv.length
      simp only [List.size_toArray]
      omega
    subst hl
    exact wpAny_pyNext_enum_endD (Draws.list (by exact I.ok.hd hc) it a hai its.toArray) he ⟨hit, p.isList⟩ fun h' eb => ⟨rfl, I.turned (t' := s.toks) (fun b o hb q => eb b o hb q) f0 f1 f3 f4 f5⟩
  self := fun A i s Q E z hQ => by
    obtain ⟨⟨old, he⟩, _⟩ := z
    exact wpAny_pyIter_enum he hQ
theorem turn_enumT {P : Program} {w : World} {K : PySem.W.Frag} {elts : List Expr} {kk : Nat} {tpos : Pos} (k0 : Int) (a e it : Addr) (hae : a ≠ e) (hai : a ≠ it) :
    Turn P w K (.Tuple elts kk tpos) (IteT K a k0) [e, it] e (fun i h => (∃ old, IsEnum h e it (k0 + (i : Nat)) old) ∧ h.IsTupleIter it a i ∧ e ≠ it) where
  mem := by simp
  obj := fun i h z b hb => by
    obtain ⟨⟨old, he⟩, ⟨o, ho, hc, hd⟩, _⟩ := z
    have e' : b = e ∨ b = it := by simpa using hb
    rcases e' with z | z
    · rw [z]; exact ⟨_, he, fun v q => nomatch q⟩
    · rw [z]; exact ⟨o, ho, fun v q => by rw [hd] at q; cases q⟩
  keep := fun i h h' z k => by
    obtain ⟨⟨old, he⟩, hi, hne⟩ := z
    exact ⟨⟨old, k e (by simp) _ he⟩, hi.at fun o q => k it (by simp) o q, hne⟩
  item := by
    intro X hP hw hK hc i pins s σ H E I hf st hg
    subst hP hw hK
    obtain ⟨he, hit, hne⟩ := st
    obtain ⟨xs, x, hq, hx⟩ := hg
    obtain ⟨its, rv, p, hz⟩ := I.tuple hq
    obtain ⟨u, hu, ru⟩ := rv.get hx
    have hul : its.toArray[i]? = some u := by simpa using hu
    have hlt : i < its.toArray.size := (Array.getElem?_eq_some_iff.mp hul).1
    refine wpAny_mono (enum_turn (elts := elts) (kk := kk) (tpos := tpos) (R := fun h => h.IsTupleIter it a (i + 1)) I (Draws.tuple (by exact I.ok.hd hc) it a hai its.toArray) hf he ⟨hit, (show s.heap.IsTuple a its.toArray from p)⟩ hlt hne (by simp [hne, hae.symm]) (x := x) (fun u' h' => ?_) (fun h h' hs sb => hs.1.at fun o q => (sb.2 it hne.symm).trans q)) (fun r s1 h => ?_) fun _ _ z => z
    · have e1 : u' = u := Option.some.inj (h'.symm.trans hul)
      rw [e1]
      exact ru
    · obtain ⟨u', er, q⟩ := h
      refine ⟨u', er, wpAny_mono q (fun _ s2 h2 => ?_) fun _ _ z => z⟩
      obtain ⟨v, H', I', rv', ⟨T, e1, e2, e3⟩, ⟨z1, z2⟩, z3⟩ := h2
      exact ⟨v, H', I', rv', ⟨T, x, e1, e2, e3, fun ys hy => by rw [I.tuple_inj hy hq]; exact hx⟩, ⟨z1, z2, hne⟩, z3⟩
  done := by
    intro X hP hw hK hc i pins s σ H E I hf st hg
    subst hP hw hK
    obtain ⟨⟨old, he⟩, hit, hne⟩ := st
    obtain ⟨xs, hq, hx⟩ := hg
    obtain ⟨its, rv, p, hz⟩ := I.tuple hq
    obtain ⟨f0, f1, f2, f3, f4, f5⟩ := hf it (by simp)
    have hl : i = its.toArray.size := by
      have := rv.length
      simp only [List.size_toArray]
      omega
    subst hl
    exact wpAny_pyNext_enum_endD (Draws.tuple (by exact I.ok.hd hc) it a hai its.toArray) he ⟨hit, (show s.heap.IsTuple a its.toArray from p)⟩ fun h' eb => ⟨rfl, I.turned (t' := s.toks) (fun b o hb q => eb b o hb q) f0 f1 f3 f4 f5⟩
  self := fun A i s Q E z hQ => by
    obtain ⟨⟨old, he⟩, _⟩ := z
    exact wpAny_pyIter_enum he hQ

/-! ### enumerate(row), enumerate(row, start=k) -/
/-- what is walked: a list or a tuple, counted from k0 -/
def rEnum (K : PySem.W.Frag) (k0 : Int) (R : It → Hp → Prop) : V → Hp → Prop := fun v H1 => ∃ a, v = .ref a ∧ (((∃ xs, SqL K H1 a xs) ∧ R (IteL K a k0) H1) ∨ ((∃ xs, SqT K H1 a xs) ∧ R (IteT K a k0) H1))
theorem enum_made {X : Cx} {pins : List (Addr × Obj)} {σ : L2.St} {H : Hp} {st : Shared} {E : Value → Shared → Prop} {elts : List Expr} {kk : Nat} {tpos : Pos} {R : It → Hp → Prop} {v : V} {u : Value} {k0 : Int} {f : Sem Value}
    (I : Inv X pins σ H st) (rv : RelV v u) (q : rEnum X.K k0 R v H)
    (hf : ∀ (ob : Obj) (Hs : Heap → Prop), Begins u ob Hs → Hs st.heap → ∀ Q : Value → Shared → Prop, (∀ h', IsEnum h' (st.heap.objs.size + 1) st.heap.objs.size k0 .none → h'.get? st.heap.objs.size = some ob → (∀ b o, st.heap.get? b = some o → h'.get? b = some o) → Q (.ref (st.heap.objs.size + 1)) { st with heap := h' }) →
      wpAny (model X.prog X.w) X.A f Q E st) :
    wpAny (model X.prog X.w) X.A f (fun itv s1 => wpAny (model X.prog X.w) X.A (pyIter itv) (PIE X pins σ (.Tuple elts kk tpos) R) E s1) E st := by
  obtain ⟨a, ev, q⟩ := q
  subst ev
  cases rv
  have big : ∀ b ∈ [st.heap.objs.size + 1, st.heap.objs.size], FpOk X pins H b := fun b hb => by
    have e' : b = st.heap.objs.size + 1 ∨ b = st.heap.objs.size := by simpa using hb
    have hle : st.heap.objs.size ≤ b := by
      rcases e' with z | z
      · rw [z]; exact Nat.le_add_right _ _
      · rw [z]; exact Nat.le_refl _
    exact I.fpOk hle (I.hok.fresh hle)
  have e0 : k0 + ((0 : Nat) : Int) = k0 := Int.add_zero _
  rcases q with ⟨⟨xs, hq⟩, q⟩ | ⟨⟨xs, hq⟩, q⟩
  · obtain ⟨its, _, pl, _⟩ := I.list hq
    have hl := pl.isList
    have hal : a < st.heap.objs.size := by
      obtain ⟨o, z, _⟩ := hl
      exact Heap.lt_size z
    refine hf _ _ (begins_list a its.toArray) hl _ fun h' he ho hk => wpAny_pyIter_enum he ?_
    exact ⟨st.heap.objs.size + 1, [st.heap.objs.size + 1, st.heap.objs.size], _, _, H, rfl, I.kept (t' := st.toks) hk, turn_enumL k0 a _ _ (Nat.ne_of_lt (Nat.lt_succ_of_lt hal)) (Nat.ne_of_lt hal), ⟨⟨.none, by rw [e0]; exact he⟩, ⟨_, ho, rfl, rfl⟩, Nat.succ_ne_self _⟩, big, q⟩
  · obtain ⟨its, _, pl, _⟩ := I.tuple hq
    have hl : st.heap.IsTuple a its.toArray := pl
    have hal : a < st.heap.objs.size := pl.lt
    refine hf _ _ (begins_tuple a its.toArray) hl _ fun h' he ho hk => wpAny_pyIter_enum he ?_
    exact ⟨st.heap.objs.size + 1, [st.heap.objs.size + 1, st.heap.objs.size], _, _, H, rfl, I.kept (t' := st.toks) hk, turn_enumT k0 a _ _ (Nat.ne_of_lt (Nat.lt_succ_of_lt hal)) (Nat.ne_of_lt hal), ⟨⟨.none, by rw [e0]; exact he⟩, ⟨_, ho, rfl, rfl⟩, Nat.succ_ne_self _⟩, big, q⟩
def iEnumR (K : PySem.W.Frag) (ta : TA) : TI := fun σ H R => ta σ H fun vs H1 => ∃ v, vs = [v] ∧ rEnum K 0 R v H1
def iEnumS (K : PySem.W.Frag) (ta tk : TA) : TI := fun σ H R => ta σ H fun vs H1 => tk σ H1 fun zs H2 => ∃ v k0, vs = [v] ∧ zs = [.int k0] ∧ -(2 ^ 63) ≤ k0 ∧ k0 < 2 ^ 63 ∧ rEnum K k0 R v H2
theorem pi_enumR {X : Cx} {e : Expr} {ta : TA} {p pos tpos : Pos} {elts : List Expr} {kk : Nat} (hg : Gl X "enumerate") (hm : X.mg "enumerate" = none) (ha : PA X [e] ta) (hs : starEach [e] X.env = [(false, eval e X.env)] := by rfl) :
    PI X (.Tuple elts kk tpos) (.Call (.Name "enumerate" p) [e] [] pos) (iEnumR X.K ta) := by
  refine ⟨fun pns st σ H R I0 h => ?_⟩
  refine Call_ (ld_blt I0 hg hm boot_enumerate (PyProof.Rows.callWith_type1 (thn (ha.run pos pns st σ H _ I0 h) fun us s1 ⟨vs, H1, I1, r1, q1⟩ => ?_) hs rfl))
  obtain ⟨v, e1, q⟩ := q1
  subst e1
  cases r1 with
  | cons r rr =>
    cases rr
    exact enum_made I1 r q fun ob Hs B h1 Q k => enum_begins1 B h1 k
/-- a built-in class called with keywords -/
theorem callWith_tyKw {M : Model} {A : Around} {E : Value → Shared → Prop} {st : Shared} {env : Env} {pos : Pos} {T : String} {e : Expr} {rest : List Expr} {kws : List Keyword} {Q : Value → Shared → Prop}
    (h : wpAny M A (spliced (backTo pos (starEach (e :: rest) env))) (fun vs s1 => wpAny M A (evalAll ((backToKw pos (keywordEach kws env)).map (·.2)))
      (fun ws s2 => wpAny M A (call (.type T) vs (((backToKw pos (keywordEach kws env)).filterMap (·.1)).zip ws)) Q E s2) E s1) E st)
    (he : backTo pos (starEach (e :: rest) env) = (false, eval e env) :: backTo pos (starEach rest env)) (hpl : (backTo pos (starEach (e :: rest) env)).any (·.1) = false)
    (hall : (backToKw pos (keywordEach kws env)).all (·.1.isSome) = true) (hkw : (backToKw pos (keywordEach kws env)).any (·.1.isNone) = false) :
    wpAny M A (callWith pos (.type T) [] (backTo pos (starEach (e :: rest) env)) (backToKw pos (keywordEach kws env))) Q E st := by
  have h2 : wpAny M A (evalArgs (.type T) true (backTo pos (starEach (e :: rest) env)) (backToKw pos (keywordEach kws env))) (fun a s1 => wpAny M A (call (.type T) ([] ++ a.pos) a.kw) Q E s1) E st := by
    rw [he] at h ⊢
    exact PyProof.Rows.evalArgs_kwB hall h
  unfold callWith
  refine wpAny_bind (wpAny_holding (wpAny_mono h2 (fun a s1 h1 => wpAny_bind (wpAny_standAt ?_)) fun _ _ z => z))
  simp only [hpl, hkw, Bool.or_false]
  exact wpAny_bind (wpAny_pure (wpAny_bind (wpAny_mono h1 (fun r s2 hr => wpAny_bind (wpAny_holding (wpAny_point (wpAny_pure hr)))) fun _ _ z => z)))
theorem pi_enumS {X : Cx} {e : Expr} {kws : List Keyword} {ta tk : TA} {p pos tpos : Pos} {elts : List Expr} {kk : Nat} (hg : Gl X "enumerate") (hm : X.mg "enumerate" = none) (ha : PA X [e] ta) (hk : PK X kws tk)
    (he : backTo pos (starEach [e] X.env) = (false, eval e X.env) :: backTo pos (starEach [] X.env) := by rfl) (hpl : (backTo pos (starEach [e] X.env)).any (·.1) = false := by rfl)
    (hall : (backToKw pos (keywordEach kws X.env)).all (·.1.isSome) = true := by rfl) (hnone : (backToKw pos (keywordEach kws X.env)).any (·.1.isNone) = false := by rfl) (hks : (backToKw pos (keywordEach kws X.env)).filterMap (·.1) = [Str.ofString "start"] := by rfl) :
    PI X (.Tuple elts kk tpos) (.Call (.Name "enumerate" p) [e] kws pos) (iEnumS X.K ta tk) := by
  refine ⟨fun pns st σ H R I0 h => ?_⟩
  refine wpAny_Call_Name_kw (ld_blt I0 hg hm boot_enumerate ?_)
  refine callWith_tyKw (thn (ha.run pos pns st σ H _ I0 h) fun us s1 ⟨vs, H1, I1, r1, q1⟩ => thn (hk.run pos pns s1 σ H1 _ I1 q1) fun ws s2 ⟨zs, H2, I2, r2, q2⟩ => ?_) he hpl hall hnone
  rw [hks]
  obtain ⟨v, k0, e1, e2, h1, h2, q⟩ := q2
  subst e1 e2
  cases r1 with
  | cons r rr =>
    cases rr
    cases r2 with
    | cons z zz =>
      cases zz
      obtain ⟨tk0, rfl⟩ := z
      exact enum_made I2 r q fun ob Hs B h3 Q k => enum_begins_start B h3 h1 h2 fun h' a b _ d => k h' a b d
end Tb
end

section
set_option Elab.async false
set_option linter.all false
set_option maxRecDepth 100000
set_option maxHeartbeats 1000000
/-! Toss base 4: built-ins over data, comprehensions, defs. -/
namespace Tb
open PySem PySem.Spec PyProof.Rows L2 Evl

theorem bb_int : bootBuiltins "int" = some (.type "int") := by decide +kernel
theorem bb_bool : bootBuiltins "bool" = some (.type "bool") := by decide +kernel
theorem bb_str : bootBuiltins "str" = some (.type "str") := by decide +kernel
theorem bb_list : bootBuiltins "list" = some (.type "list") := by decide +kernel
theorem bb_tuple : bootBuiltins "tuple" = some (.type "tuple") := by decide +kernel
theorem bb_dict : bootBuiltins "dict" = some (.type "dict") := by decide +kernel
theorem bb_len : bootBuiltins "len" = some (.builtin "len") := by decide +kernel
theorem bb_max : bootBuiltins "max" = some (.builtin "max") := by decide +kernel
theorem bb_min : bootBuiltins "min" = some (.builtin "min") := by decide +kernel
theorem bb_abs : bootBuiltins "abs" = some (.builtin "abs") := by decide +kernel
theorem bb_sum : bootBuiltins "sum" = some (.builtin "sum") := by decide +kernel
theorem bb_isinstance : bootBuiltins "isinstance" = some (.builtin "isinstance") := by decide +kernel
/-- the built-in names that a module does not name anew -/
structure Bl (mg : Str → Option Value) : Prop where
  int : mg "int" = none
  bool : mg "bool" = none
  str : mg "str" = none
  list : mg "list" = none
  tuple : mg "tuple" = none
  dict : mg "dict" = none
  len : mg "len" = none
  max : mg "max" = none
  min : mg "min" = none
  isinstance : mg "isinstance" = none
  enumerate : mg "enumerate" = none
  reversed : mg "reversed" = none
  range : mg "range" = none

section
variable {K : PySem.W.Frag} {σ : L2.St} {H H' : Hp} {ta tb te tx tl : TE} {t u : TT} {d e z : PyData} {ds es : List PyData} {r : R2} {v : V}
/-! ### isinstance -/
def tyD : PyData → String
  | .none => "NoneType"
  | .bool _ => "bool"
  | .int _ => "int"
  | .str _ => "str"
  | .list _ => "list"
  | .tuple _ => "tuple"
  | .dict _ => "dict"
theorem tyx_of (h : Dp K H v d) : TyX K H v (.type (tyD d)) := by
  cases h with
  | non => exact .base .non
  | bl b => exact .base (.bl b)
  | int i => exact .base (.int i)
  | str x => exact .base (.str x)
  | lst h a =>
    rcases h with (h | ⟨o, h⟩) | ⟨o, its, n, hk, hc, _⟩
    · exact .base (.lst h)
    · exact .base (.frz h)
    · exact .kList hk hc
  | tup h a =>
    rcases h with (h | ⟨o, h⟩) | ⟨o, its, n, hk, hc, _⟩
    · exact .base (.tup h)
    · exact .fTuple h
    · exact .kTuple hk hc
theorem d_isi {c : String} {b : Bool} (h : EvD K te σ H d) (hb : kitB (tyD d) c = some b) : EvD K (tCB (rIsi K) (tCons te (tCons (tC (.ty c)) tNil))) σ H (.bool b) := fun H1 x Q q =>
  h H1 x _ fun v G H2 g hd => ⟨v, .ty c, _, _, b, rfl, .ty c, tyx_of (dp_mono g.g2 hd), kit_ty hb, q _ G H2 g (.bl b)⟩
theorem d_isi2 {c1 c2 : String} {b1 b2 : Bool} (h : EvD K te σ H d) (h1 : kitB (tyD d) c1 = some b1) (h2 : kitB (tyD d) c2 = some b2) :
    EvD K (tCB (rIsiT K) (tCons te (tCons (tTup (tCons (tC (.ty c1)) (tCons (tC (.ty c2)) tNil))) tNil))) σ H (.bool (b1 || b2)) := fun H1 x Q q =>
  h H1 x _ fun v G H2 g hd => ⟨by show 2 ≤ sizeLine; decide, fun p hp => ⟨v, p, [.ty c1, .ty c2], _, [.type c1, .type c2], b1 || b2, rfl, upd_same, .cons (.ty c1) (.cons (.ty c2) .nil), tyx_of (dp_mono (g.g2.trans (Ex.new hp)) hd),
    kitAny_cons (kit_ty h1) (fun z => by
      subst z
      exact kitAny_cons (kit_ty h2) (fun z => by
        subst z
        exact kitAny_nil) fun z => by rw [z]; rfl) (fun z => by rw [z]; rfl), q _ G _ (g.trans (Gr.mut g.g2 hp)) (.bl _)⟩⟩
theorem kit_int : kitB (tyD d) "int" = some (match d with | .int _ => true | .bool _ => true | _ => false) := by
  cases d
  · exact (show kitB "NoneType" "int" = some false by decide +kernel)
  · exact (show kitB "bool" "int" = some true by decide +kernel)
  · exact (show kitB "int" "int" = some true by decide +kernel)
  · exact (show kitB "str" "int" = some false by decide +kernel)
  · exact (show kitB "list" "int" = some false by decide +kernel)
  · exact (show kitB "tuple" "int" = some false by decide +kernel)
  · exact (show kitB "dict" "int" = some false by decide +kernel)
theorem kit_bool : kitB (tyD d) "bool" = some (match d with | .bool _ => true | _ => false) := by
  cases d
  · exact (show kitB "NoneType" "bool" = some false by decide +kernel)
  · exact (show kitB "bool" "bool" = some true by decide +kernel)
  · exact (show kitB "int" "bool" = some false by decide +kernel)
  · exact (show kitB "str" "bool" = some false by decide +kernel)
  · exact (show kitB "list" "bool" = some false by decide +kernel)
  · exact (show kitB "tuple" "bool" = some false by decide +kernel)
  · exact (show kitB "dict" "bool" = some false by decide +kernel)
theorem kit_str : kitB (tyD d) "str" = some (match d with | .str _ => true | _ => false) := by
  cases d
  · exact (show kitB "NoneType" "str" = some false by decide +kernel)
  · exact (show kitB "bool" "str" = some false by decide +kernel)
  · exact (show kitB "int" "str" = some false by decide +kernel)
  · exact (show kitB "str" "str" = some true by decide +kernel)
  · exact (show kitB "list" "str" = some false by decide +kernel)
  · exact (show kitB "tuple" "str" = some false by decide +kernel)
  · exact (show kitB "dict" "str" = some false by decide +kernel)
theorem kit_list : kitB (tyD d) "list" = some (match d with | .list _ => true | _ => false) := by
  cases d
  · exact (show kitB "NoneType" "list" = some false by decide +kernel)
  · exact (show kitB "bool" "list" = some false by decide +kernel)
  · exact (show kitB "int" "list" = some false by decide +kernel)
  · exact (show kitB "str" "list" = some false by decide +kernel)
  · exact (show kitB "list" "list" = some true by decide +kernel)
  · exact (show kitB "tuple" "list" = some false by decide +kernel)
  · exact (show kitB "dict" "list" = some false by decide +kernel)
theorem kit_tuple : kitB (tyD d) "tuple" = some (match d with | .tuple _ => true | _ => false) := by
  cases d
  · exact (show kitB "NoneType" "tuple" = some false by decide +kernel)
  · exact (show kitB "bool" "tuple" = some false by decide +kernel)
  · exact (show kitB "int" "tuple" = some false by decide +kernel)
  · exact (show kitB "str" "tuple" = some false by decide +kernel)
  · exact (show kitB "list" "tuple" = some false by decide +kernel)
  · exact (show kitB "tuple" "tuple" = some true by decide +kernel)
  · exact (show kitB "dict" "tuple" = some false by decide +kernel)

/-! ### len, an item, list, tuple, max, min -/
theorem rcd_len {b : Bool} : RCD K (fun xs H Q => ∃ p ys, xs = [V.ref p] ∧ (SqL K H p ys ∨ SqT K H p ys) ∧ Q (.int ys.length) H) [rows b ds] H (.int ds.length) := fun vs H1 x hd Q q => by
  cases hd with
  | cons h h0 =>
    cases h0
    obtain ⟨a, xs, rfl, hr, ha⟩ := row_of h
    refine ⟨a, xs, rfl, row_mono x hr, ?_⟩
    rw [ha.length]
    exact q _ H H1 (.refl x) (.int _)
theorem at_dp {xs : List V} {i : Int} (h : DpAll K H xs ds) (ha : atI ds i = some e) : ∃ v, atI xs i = some v ∧ Dp K H v e := by
  unfold atI at ha ⊢
  rw [h.length]
  cases q : ixN ds.length i with
  | none =>
    rw [q] at ha
    cases ha
  | some j =>
    rw [q] at ha
    exact h.get' ha
/-- an item of a row -/
def rIxR (K : PySem.W.Frag) : R2 := fun x y H Q => rIxL K x y H Q ∨ rIxT K x y H Q
theorem ix_row {X : Cx} : IxR X (rIxR X.K) := ix_list.or ix_tup
theorem rd_ix {b : Bool} {i : Int} (ha : atI ds i = some e) : RD K (rIxR K) (rows b ds) (.int i) H e := fun x y H1 ex hx hy Q q => by
  obtain ⟨a, xs, rfl, hr, hd⟩ := row_of hx
  obtain ⟨w, h1, h2⟩ := at_dp hd ha
  have hy := hy.int_of
  subst hy
  rcases hr with hr | hr
  · exact .inl ⟨a, xs, i, w, rfl, rfl, ex_l ex hr, h1, q _ H H1 (.refl ex) h2⟩
  · exact .inr ⟨a, xs, i, w, rfl, rfl, ex_t ex hr, h1, q _ H H1 (.refl ex) h2⟩
theorem rcd_tuple {b : Bool} : RCD K (fun xs H Q => ∃ p ys, xs = [V.ref p] ∧ ((SqL K H p ys ∧ ∀ l, H l = none → Q (.ref l) (upd H l (.tup ys))) ∨ (SqT K H p ys ∧ Q (.ref p) H))) [rows b ds] H (.tuple ds) := fun vs H1 x hd Q q => by
  cases hd with
  | cons h h0 =>
    cases h0
    cases b with
    | true =>
      obtain ⟨a, xs, rfl, hr, ha⟩ := Dp.lst_of (show Dp K H _ (.list ds) from h)
      exact ⟨a, xs, rfl, .inl ⟨ex_l x hr, fun l hl => q _ _ _ (Gr.new x hl) (.tup (st_of upd_same) (dpa_mono (Ex.new (fresh_back x hl)) ha))⟩⟩
    | false =>
      obtain ⟨a, xs, rfl, hr, ha⟩ := Dp.tup_of (show Dp K H _ (.tuple ds) from h)
      exact ⟨a, xs, rfl, .inr ⟨ex_t x hr, q _ H H1 (.refl x) (.tup hr ha)⟩⟩
theorem rcdl_list {b : Bool} : RCDL K (fun xs H Q => ∃ p ys, xs = [V.ref p] ∧ (SqL K H p ys ∨ SqT K H p ys) ∧ ∀ l, H l = none → Q (.ref l) (upd H l (.lst ys))) [rows b ds] H ds := fun vs H1 x hd Q q => by
  cases hd with
  | cons h h0 =>
    cases h0
    obtain ⟨a, xs, rfl, hr, ha⟩ := row_of h
    exact ⟨a, xs, rfl, row_mono x hr, fun l hl => q l xs H _ (fresh_back x hl) hl (Gr.mut x hl) upd_same ha⟩
theorem rcd_min2 {i j : Int} : RCD K (fun xs H Q => ∃ i j, xs = [V.int i, .int j] ∧ Q (.int (if j < i then j else i)) H) [.int i, .int j] H (.int (min i j)) := fun vs H1 x hd Q q => by
  have hv := DpAll.ints (ns := [i, j]) hd
  refine ⟨i, j, hv, ?_⟩
  rw [show (if j < i then j else i) = min i j by split <;> omega]
  exact q _ H H1 (.refl x) (.int _)
theorem rcd_max2 {i j : Int} : RCD K (fun xs H Q => ∃ i j, xs = [V.int i, .int j] ∧ Q (.int (if j > i then j else i)) H) [.int i, .int j] H (.int (max i j)) := fun vs H1 x hd Q q => by
  have hv := DpAll.ints (ns := [i, j]) hd
  refine ⟨i, j, hv, ?_⟩
  rw [show (if j > i then j else i) = max i j by split <;> omega]
  exact q _ H H1 (.refl x) (.int _)
theorem rcd_int1 {i : Int} : RCD K (fun xs H Q => (∃ i, xs = [V.int i] ∧ Q (.int i) H) ∨ ∃ k, xs = [V.bl k] ∧ Q (.int (if k then 1 else 0)) H) [.int i] H (.int i) := fun vs H1 x hd Q q => .inl ⟨i, DpAll.ints (ns := [i]) hd, q _ H H1 (.refl x) (.int _)⟩
theorem rcd_intB {b : Bool} : RCD K (fun xs H Q => (∃ i, xs = [V.int i] ∧ Q (.int i) H) ∨ ∃ k, xs = [V.bl k] ∧ Q (.int (if k then 1 else 0)) H) [.bool b] H (.int (if b then 1 else 0)) := fun vs H1 x hd Q q => by
  cases hd with
  | cons h h0 =>
    cases h0
    rw [h.bl_of]
    exact .inr ⟨b, rfl, q _ H H1 (.refl x) (.int _)⟩
end
/-- the greatest of some ints, d where there are none -/
def maxOf (d : Int) : List Int → Int
  | [] => d
  | n :: ns => ns.foldl max n
def rMaxDf (K : PySem.W.Frag) : List V → List V → Hp → VK → Prop := fun vs zs H Q => ∃ a ns d0, vs = [.ref a] ∧ zs = [.int d0] ∧ SqT K H a (ns.map V.int) ∧ Q (.int (maxOf d0 ns)) H
theorem alike_ints (ns : List Int) : PySem.W.AlikeAll (ns.map .int) := by
  refine ⟨fun x hx y hy => ?_, fun x hx => ?_⟩
  · obtain ⟨i, _, rfl⟩ := List.mem_map.mp hx
    obtain ⟨j, _, rfl⟩ := List.mem_map.mp hy
    rfl
  · obtain ⟨i, _, rfl⟩ := List.mem_map.mp hx
    exact fun z => nomatch z
theorem depth_ints : ∀ ns : List Int, PyData.depthAll (ns.map .int) ≤ 1
  | [] => by simp [PyData.depthAll]
  | n :: ns => by
    have h := depth_ints ns
    simp only [List.map_cons, PyData.depthAll, PyData.depth]
    omega
theorem cr_maxDf {X : Cx} (hc : X.calm = true) (hu : X.A.units + 64 < cLine) : CallRK X (.builtin "max") [Str.ofString "default"] (rMaxDf X.K) := by
  intro pns st σ H vs zs us ws Q I r r2 h
  obtain ⟨a, ns, d0, rfl, rfl, hs, q⟩ := h
  obtain ⟨its, rv, ht, _⟩ := I.tuple hs
  obtain ⟨as, hr⟩ := Dp.readsAll I (ns.map .int) _ its (DpAll.of_ints ns) rv
  rw [Vals.ref1 r]
  cases r2 with
  | cons z zz =>
    cases zz
    obtain ⟨tk0, rfl⟩ := z
    have hd := depth_ints ns
    refine PySem.W.max_tuple_default (I.ok.hd hc) (show st.heap.IsTuple a its.toArray from ht) (by simpa using hr) (alike_ints ns) (by omega) (fun h0 h' tk hk => ?_) fun y ys i v h' tk bs hy hv hr' hk => ?_
    · cases ns with
      | nil => exact ⟨.int d0, H, I.kept hk, ⟨_, rfl⟩, q⟩
      | cons n ns => cases h0
    · cases ns with
      | nil => cases hy
      | cons n ns =>
        rw [List.map_cons] at hy
        injection hy with e1 e2
        subst e1 e2
        rw [PySem.W.maxD_ints] at hr'
        cases hr' with
        | int _ t => exact ⟨.int _, H, I.kept hk, ⟨_, rfl⟩, q⟩
section
variable {K : PySem.W.Frag} {σ : L2.St} {H H' : Hp} {te tx tl : TE} {t : TT} {d e z : PyData} {ds es : List PyData} {g : TG} {vs : List Nat}
theorem d_maxDf {ns : List Int} {d0 : Int} (h : EvD K te σ H (.tuple (ns.map .int))) : EvD K (tCKw (rMaxDf K) (tCons te tNil) (tCons (tC (.int d0)) tNil)) σ H (.int (maxOf d0 ns)) := fun H1 x Q q =>
  h H1 x _ fun v G H2 g hd => by
    obtain ⟨a, xs, rfl, hs, ha⟩ := Dp.tup_of hd
    rw [ha.ints] at hs
    exact ⟨a, ns, d0, rfl, rfl, ex_t g.g2 hs, q _ G H2 g (.int _)⟩

/-! ### comprehensions over a row -/
theorem dl_lc {b : Bool} (f : PyData → Option PyData) (h : EvD K tl σ H (rows b ds)) (hl : ds.length ≤ 40000)
    (hb : ∀ (d : PyData), d ∈ ds → ∀ (x : V) (G H' : Hp), Ex H G → Ex G H' → Dp K G x d → ∀ Q : L2.St → Hp → Prop, (∀ σ2, wipe σ2 vs = wipe σ vs → EvT t σ2 G (f d).isSome → (∀ e, f d = some e → EvD K te σ2 G e) → Q σ2 H') → g x (wipe σ vs) H' Q) :
    EvDL K (tLc (iRow K tl) g t te vs) σ H (ds.filterMap f) := fun H1 x Q q => h H1 x _ fun v G1 H2 g1 hd => by
  obtain ⟨a, xs, rfl, hr, ha⟩ := row_of hd
  have hxl := ha.length
  -- the word: what is known for good grows, the list at D stands apart
  let Pv : Addr → Nat → Hp → Prop := fun Dl i H' => ∃ G ys, G Dl = none ∧ Gr G1 H2 G H' ∧ H' Dl = some (.lst ys) ∧ DpAll K G ys ((ds.take i).filterMap f)
  have h0 : ∀ Dl, H2 Dl = none → Pv Dl 0 (upd H2 Dl (.lst [])) := fun Dl hD => ⟨G1, [], fresh_back g1.g2 hD, Gr.mut g1.g2 hD, upd_same, by simpa using DpAll.nil⟩
  have fin : ∀ Dl, H2 Dl = none → ∀ H', Pv Dl ds.length H' → Q (.ref Dl) H' := fun Dl hD H' ⟨G, ys, a1, a2, a3, a4⟩ => by
    rw [List.take_length] at a4
    exact q Dl ys G H' a1 (fresh_back g1.h12 hD) (g1.trans a2) a3 a4
  have turn : ∀ Dl, H2 Dl = none → ∀ i y H', xs[i]? = some y → Pv Dl i H' → g y (wipe σ vs) H' fun σ2 H2' => wipe σ2 vs = wipe σ vs ∧ t σ2 H2' fun b H3 =>
      if b = true then te σ2 H3 fun w H4 => ∃ acc, H4 Dl = some (.lst acc) ∧ acc.length < sizeLine ∧ Pv Dl (i + 1) (upd H4 Dl (.lst (acc ++ [w]))) else Pv Dl (i + 1) H3 := fun Dl hD i y H' hy p => by
    obtain ⟨G, ys, a1, a2, a3, a4⟩ := p
    obtain ⟨d, hdi, hdy⟩ := ha.get hy
    have hmem : d ∈ ds := List.mem_of_getElem? hdi
    have hi : i < ds.length := (List.getElem?_eq_some_iff.mp hdi).1
    refine hb d hmem y G H' (g1.hg.trans a2.hg) a2.g2 (dp_mono a2.hg hdy) _ fun σ2 hw ht he => ⟨hw, ht H' a2.g2 _ fun H3 e3 => ?_⟩
    have htk : (ds.take (i + 1)).filterMap f = (ds.take i).filterMap f ++ (f d).toList := by
      rw [List.take_add_one, hdi, List.filterMap_append]
      cases hf : f d <;> simp [hf]
    cases hf : f d with
    | none =>
      show Pv Dl (i + 1) H3
      refine ⟨G, ys, a1, ⟨a2.hg, a2.g2.trans e3, a2.h12.trans e3, a2.sep⟩, e3 _ _ a3, ?_⟩
      rw [htk, hf]
      simpa using a4
    | some e =>
      show te σ2 H3 fun w H4 => ∃ acc, H4 Dl = some (.lst acc) ∧ acc.length < sizeLine ∧ Pv Dl (i + 1) (upd H4 Dl (.lst (acc ++ [w])))
      refine he e hf H3 (a2.g2.trans e3) _ fun w G4 H4 g4 hw4 => ?_
      have hD4 : H4 Dl = some (.lst ys) := g4.h12 _ _ (e3 _ _ a3)
      have hG4 : G4 Dl = none := g4.sep Dl a1 (by rw [e3 _ _ a3]; exact fun z => nomatch z)
      have hlen : ys.length ≤ 40000 := by
        rw [a4.length]
        exact Nat.le_trans (List.length_filterMap_le _ _) (by rw [List.length_take]; omega)
      refine ⟨ys, hD4, sz_lt (by omega), G4, ys ++ [w], hG4, ⟨a2.hg.trans g4.hg, fun b u hu => ?_, Ex.mut ((a2.h12.trans e3).trans g4.h12) hD, fun b h1 h2 => ?_⟩, upd_same, ?_⟩
      · rw [upd_ne (ne_of_none hu hG4)]
        exact g4.g2 b u hu
      · refine g4.sep b (a2.sep b h1 h2) fun z => ?_
        cases q2 : H2 b with
        | none => exact h2 q2
        | some o =>
          rw [(a2.h12.trans e3) b o q2] at z
          cases z
      · rw [htk, hf]
        exact (dpa_mono g4.hg a4).append (.one hw4)
  have Gstay : ∀ Dl i H', Pv Dl i H' → Ex G1 H' := fun Dl i H' ⟨G, ys, _, a2, _⟩ => a2.hg.trans a2.g2
  refine ⟨a, rfl, ?_⟩
  rcases hr with hr | hr
  · exact .inl ⟨⟨xs, ex_l g1.g2 hr⟩, fun Dl hD => lc_list (xs := xs) (Pv Dl) (h0 Dl hD) (fun i H' _ p => ex_l (Gstay Dl i H' p) hr) (turn Dl hD) (by rw [hxl]; exact fin Dl hD)⟩
  · exact .inr ⟨⟨xs, ex_t g1.g2 hr⟩, fun Dl hD => lc_tup (xs := xs) (Pv Dl) (h0 Dl hD) (fun i H' _ p => ex_t (Gstay Dl i H' p) hr) (turn Dl hD) (by rw [hxl]; exact fin Dl hD)⟩
theorem et_yes : EvT tYes σ H true := fun H1 _ _ q => q H1 (Ex.refl H1)
end

/-! ### a def by its body -/
theorem has_mk {P : Program} {w : World} {K : PySem.W.Frag} {mg : Str → Option Value} {base : Heap} {CX : CXT} {x qual : Str} {st : Stmt} {f : Addr} {fd : FuncData} {k : Nat} {N ps : List Str} {sp : Sp}
    (F : FunD K x qual (defArgs st) (defBody st) (defScope st) [] [] f fd) (hm : mg x = some (.ref f)) (S : FnScope N ps (defScope st)) (len : ∀ vs H Q E, sp vs H Q E → vs.length = ps.length)
    (h : ∀ (kV doc pm : Value) (an : Option Addr) (cdv ct : Value) (us : List Value), us.length = ps.length → bindArgs (PySem.W.fnOf x qual (defArgs st) (defBody st) (defScope st) .none kV doc pm an cdv ct) ⟨us, []⟩ = pure (ps.zip us))
    (body : ∀ (cdv : Value) (A : Around) (outer : List Env) (s : Shared) (H : Hp) (vs : List V) (Q : VK) (E : XK), Room k (A.deeper (envOfC qual (defScope st) s.heap.objs.size f cdv)) → sp vs H Q E →
      ∃ t, PSs (cxOf CX P w K mg base N qual (defScope st) f cdv A outer s H E).nox (defBody st) t ∧ t { nx := fun _ H' => Q .non H', rt := Q } (start N vs) H) :
    Has P w K mg base CX x (k + 1) ps [] sp :=
  has_of F hm (F.ok S len fun cdv A outer s H vs Q E hr hs => by
    obtain ⟨t, h1, h2⟩ := body cdv A outer s H vs Q E hr hs
    exact ⟨t, h1.nox, h2⟩) h
end Tb
end

section
set_option Elab.async false
set_option linter.all false
set_option maxRecDepth 100000
set_option maxHeartbeats 1000000
/-! Toss base 5: pairs unpacked, loops over enumerate, reversed, range. -/
namespace Tb
open PySem PySem.Spec PyProof.Rows L2 Evl

section
variable {K : PySem.W.Frag} {σ : L2.St} {B H H' : Hp} {ta tb te tx : TE} {t u : TT} {d e z : PyData} {ds es : List PyData} {D : Ends} {tu tw tz : TS} {g : TG} {b : Bool} {v : V}
theorem t_test {c : Bool} (h : EvD K te σ H (.bool c)) : EvT (tTest te) σ H c := fun H1 x Q q => h H1 x _ fun v G H2 g h2 => ⟨c, h2.bl_of, q H2 g.h12⟩
/-- (i, j) = a pair that B knows -/
theorem g_pairB {i j : Nat} {Q : L2.St → Hp → Prop} (x : Ex B H) (h : Dp K B v (rows b [d, e])) (k : ∀ y w, Dp K B y d → Dp K B w e → Q ((σ.set i (some y)).set j (some w)) H) : gRow K 2 (gCons (gName i) (gCons (gName j) gNil)) v σ H Q := by
  obtain ⟨a, xs, e1, hr, ha⟩ := row_of h
  cases ha with
  | cons h1 a1 =>
    cases a1 with
    | cons h2 a2 =>
      cases a2
      exact ⟨a, _, e1, row_mono x hr, rfl, _, _, rfl, _, _, rfl, rfl, k _ _ h1 h2⟩
theorem qd_pair {i j : Nat} (x : Ex B H) (h : EvD K te σ B (rows b [d, e])) (k : ∀ y w G H1, Gr B H G H1 → Dp K G y d → Dp K G w e → tz D ((σ.set i (some y)).set j (some w)) H1) :
    tSeq (tAsg te (gRow K 2 (gCons (gName i) (gCons (gName j) gNil)))) tz D σ H := h H x _ fun v G H1 g hd => g_pairB g.g2 hd fun y w hy hw => k y w G H1 g hy hw

/-! ### for i, x in enumerate(row, k0) -/
theorem walk_enumL {a : Addr} {k0 : Int} {xs : List V} : Walk (IteL K a k0) xs.length (fun H => SqL K H a xs) (fun i H v H' => ∃ T x, v = .ref T ∧ H T = none ∧ H' = upd H T (.tup [.int (k0 + (i : Nat)), x]) ∧ xs[i]? = some x) :=
  ⟨fun i _ hi q => ⟨xs, xs[i], q, by simp [hi]⟩, fun _ q => ⟨xs, q, rfl⟩, fun i H v H' _ q y => by
    obtain ⟨T, x, h1, h2, h3, h4⟩ := y
    exact ⟨T, x, h1, h2, h3, h4 xs q⟩⟩
theorem walk_enumT {a : Addr} {k0 : Int} {xs : List V} : Walk (IteT K a k0) xs.length (fun H => SqT K H a xs) (fun i H v H' => ∃ T x, v = .ref T ∧ H T = none ∧ H' = upd H T (.tup [.int (k0 + (i : Nat)), x]) ∧ xs[i]? = some x) :=
  ⟨fun i _ hi q => ⟨xs, xs[i], q, by simp [hi]⟩, fun _ q => ⟨xs, q, rfl⟩, fun i H v H' _ q y => by
    obtain ⟨T, x, h1, h2, h3, h4⟩ := y
    exact ⟨T, x, h1, h2, h3, h4 xs q⟩⟩
theorem for_enum {k0 : Int} {a c : Nat} (hd : Dp K B v (rows b ds)) (Pv : Nat → L2.St → Hp → Prop) (h0 : Pv 0 σ H) (e : Ex B H) (hG : ∀ i σ' H', i ≤ ds.length → Pv i σ' H' → Ex B H')
    (hs : ∀ (i : Nat) d x σ' H' H2, ds[i]? = some d → Dp K B x d → Pv i σ' H' → Ex H' H2 → tu { D with nx := Pv (i + 1), ct := Pv (i + 1), bk := D.nx } ((σ'.set a (some (.int (k0 + (i : Int))))).set c (some x)) H2)
    (hn : ∀ σ' H', Pv ds.length σ' H' → D.nx σ' H') :
    rEnum K k0 (fun J H1 => ∃ W : Nat → Nat → L2.St → Hp → Prop, (∃ m, W 0 m σ H1) ∧ ∀ i m σ H, W i m σ H → (J.stop i H ∧ D.nx σ H) ∨ (J.go i H ∧ ∃ N : L2.St → Hp → Prop, (∀ σ' H', N σ' H' → ∃ m', m' < m ∧ W (i + 1) m' σ' H') ∧
      ∀ x H', J.yld i H x H' → gRow K 2 (gCons (gName a) (gCons (gName c) gNil)) x σ H' fun σ2 H2 => tu { D with nx := N, ct := N, bk := D.nx } σ2 H2)) v H := by
  obtain ⟨ad, xs, rfl, hr, ha⟩ := row_of hd
  have hl := ha.length
  have turn : ∀ (i : Nat) (y : V) (σ' : L2.St) (H1 H1' : Hp), i < xs.length → Pv i σ' H1 → (∃ T x, y = .ref T ∧ H1 T = none ∧ H1' = upd H1 T (.tup [.int (k0 + (i : Nat)), x]) ∧ xs[i]? = some x) →
      gRow K 2 (gCons (gName a) (gCons (gName c) gNil)) y σ' H1' fun σ2 H2 => tu { D with nx := Pv (i + 1), ct := Pv (i + 1), bk := D.nx } σ2 H2 := by
    rintro i y σ' H1 H1' hi p ⟨T, x, rfl, hT, rfl, hx⟩
    obtain ⟨d, h1, h2⟩ := ha.get hx
    exact ⟨T, [.int (k0 + (i : Nat)), x], rfl, .inr (st_of upd_same), rfl, _, _, rfl, _, _, rfl, rfl, hs i d x σ' H1 _ h1 h2 p (Ex.new hT)⟩
  refine ⟨ad, rfl, ?_⟩
  rcases hr with hr | hr
  · exact .inl ⟨⟨xs, ex_l e hr⟩, for_it walk_enumL Pv h0 (fun i σ' H' hi p => ex_l (hG i σ' H' (by omega) p) hr) turn (by rw [hl]; exact hn)⟩
  · exact .inr ⟨⟨xs, ex_t e hr⟩, for_it walk_enumT Pv h0 (fun i σ' H' hi p => ex_t (hG i σ' H' (by omega) p) hr) turn (by rw [hl]; exact hn)⟩
/-- over a row at the j-th slot -/
theorem sd_forE {j a c : Nat} (e : Ex B H) (hd : Dp K B v (rows b ds)) (hv : σ[j]? = some (some v)) (Pv : Nat → L2.St → Hp → Prop) (h0 : Pv 0 σ H) (hG : ∀ i σ' H', i ≤ ds.length → Pv i σ' H' → Ex B H')
    (hs : ∀ (i : Nat) d x σ' H' H2, ds[i]? = some d → Dp K B x d → Pv i σ' H' → Ex H' H2 → tu { D with nx := Pv (i + 1), ct := Pv (i + 1), bk := D.nx } ((σ'.set a (some (.int (0 + (i : Int))))).set c (some x)) H2)
    (hn : ∀ σ' H', Pv ds.length σ' H' → D.nx σ' H') : tFor (iEnumR K (tCons (tVar j) tNil)) (gRow K 2 (gCons (gName a) (gCons (gName c) gNil))) tu D σ H :=
  ⟨_, hv, _, rfl, for_enum hd Pv h0 e hG hs hn⟩
theorem qd_forE {j a c : Nat} (e : Ex B H) (hd : Dp K B v (rows b ds)) (hv : σ[j]? = some (some v)) (Pv : Nat → L2.St → Hp → Prop) (h0 : Pv 0 σ H) (hG : ∀ i σ' H', i ≤ ds.length → Pv i σ' H' → Ex B H')
    (hs : ∀ (i : Nat) d x σ' H' H2, ds[i]? = some d → Dp K B x d → Pv i σ' H' → Ex H' H2 → tu { D with nx := Pv (i + 1), ct := Pv (i + 1), bk := tz D } ((σ'.set a (some (.int (0 + (i : Int))))).set c (some x)) H2)
    (hn : ∀ σ' H', Pv ds.length σ' H' → tz D σ' H') : tSeq (tFor (iEnumR K (tCons (tVar j) tNil)) (gRow K 2 (gCons (gName a) (gCons (gName c) gNil))) tu) tz D σ H := sd_forE (D := { D with nx := tz D }) e hd hv Pv h0 hG hs hn
end
end Tb
end

section
set_option Elab.async false
set_option linter.all false
set_option maxRecDepth 100000
set_option maxHeartbeats 1000000
/-! Toss towers: towers as data, comprehensions and loops over them; defs with a default. -/
namespace Tb
open PySem PySem.Spec PyProof.Rows L2 Evl

abbrev Tw := List (Int × Int)
def prD (c : Bool) (p : Int × Int) : PyData := rows c [.int p.1, .int p.2]
/-- towers as data: a row (b: a list) of pairs (c: lists) -/
def twD (b c : Bool) (ts : Tw) : PyData := rows b (ts.map (prD c))
section
variable {K : PySem.W.Frag} {σ : L2.St} {B H H' : Hp} {ta tb te tx tl : TE} {t u : TT} {d e z : PyData} {ds es : List PyData} {D : Ends} {tu tw tz : TS} {b c : Bool} {v : V} {ts : Tw} {i j : Nat} {vs : List Nat}
theorem lc_tw (f : Int × Int → Option PyData) (h : EvD K tl σ B (twD b c ts)) (hl : ts.length ≤ 40000) (hv : ∀ y w, wipe (((wipe σ vs).set i (some y)).set j (some w)) vs = wipe σ vs)
    (ht : ∀ p ∈ ts, ∀ G, Ex B G → EvT t (((wipe σ vs).set i (some (.int p.1))).set j (some (.int p.2))) G (f p).isSome)
    (he : ∀ p ∈ ts, ∀ e, f p = some e → ∀ G, Ex B G → EvD K te (((wipe σ vs).set i (some (.int p.1))).set j (some (.int p.2))) G e) :
    EvDL K (tLc (iRow K tl) (gRow K 2 (gCons (gName i) (gCons (gName j) gNil))) t te vs) σ B (ts.filterMap f) := by
  let f' : PyData → Option PyData := fun d => match d with
    | .list [.int k, .int h] => f (k, h)
    | .tuple [.int k, .int h] => f (k, h)
    | _ => none
  have hf : ∀ p, f' (prD c p) = f p := fun p => by cases c <;> rfl
  have e1 : (ts.map (prD c)).filterMap f' = ts.filterMap f := by
    rw [List.filterMap_map]
    congr 1
    funext p
    exact hf p
  rw [← e1]
  refine dl_lc f' h (by rw [List.length_map]; exact hl) fun d hd x G H' eG e2 hx Q k => ?_
  obtain ⟨p, hp, rfl⟩ := List.mem_map.mp hd
  refine g_pairB e2 hx fun y w hy hw => ?_
  rw [hy.int_of, hw.int_of]
  refine k _ (hv _ _) ?_ fun e he' => ?_
  · rw [hf p]
    exact ht p hp G eG
  · rw [hf p] at he'
    exact he p hp e he' G eG
/-- for a, c in towers (at the l-th slot) -/
theorem sd_forTw {l : Nat} (e : Ex B H) (hd : Dp K B v (twD b c ts)) (hv : σ[l]? = some (some v)) (Pv : Nat → L2.St → Hp → Prop) (h0 : Pv 0 σ H) (hG : ∀ n σ' H', n ≤ ts.length → Pv n σ' H' → Ex B H')
    (hs : ∀ n p σ' H', ts[n]? = some p → Pv n σ' H' → tu { D with nx := Pv (n + 1), ct := Pv (n + 1), bk := D.nx } ((σ'.set i (some (.int p.1))).set j (some (.int p.2))) H')
    (hn : ∀ σ' H', Pv ts.length σ' H' → D.nx σ' H') : tFor (iRow K (tVar l)) (gRow K 2 (gCons (gName i) (gCons (gName j) gNil))) tu D σ H := by
  have hl : (ts.map (prD c)).length = ts.length := List.length_map ..
  refine sd_for e hd hv Pv h0 (fun n σ' H' hi p => hG n σ' H' (by omega) p) (fun n d x σ' H' hi hx p => ?_) (by rw [hl]; exact hn)
  rw [List.getElem?_map] at hi
  cases hq : ts[n]? with
  | none =>
    rw [hq] at hi
    cases hi
  | some q =>
    rw [hq] at hi
    cases hi
    refine g_pairB (hG n σ' H' (by have := (List.getElem?_eq_some_iff.mp hq).1; omega) p) hx fun y w hy hw => ?_
    rw [hy.int_of, hw.int_of]
    exact hs n q σ' H' hq p
theorem qd_forTw {l : Nat} (e : Ex B H) (hd : Dp K B v (twD b c ts)) (hv : σ[l]? = some (some v)) (Pv : Nat → L2.St → Hp → Prop) (h0 : Pv 0 σ H) (hG : ∀ n σ' H', n ≤ ts.length → Pv n σ' H' → Ex B H')
    (hs : ∀ n p σ' H', ts[n]? = some p → Pv n σ' H' → tu { D with nx := Pv (n + 1), ct := Pv (n + 1), bk := tz D } ((σ'.set i (some (.int p.1))).set j (some (.int p.2))) H')
    (hn : ∀ σ' H', Pv ts.length σ' H' → tz D σ' H') : tSeq (tFor (iRow K (tVar l)) (gRow K 2 (gCons (gName i) (gCons (gName j) gNil))) tu) tz D σ H := sd_forTw (D := { D with nx := tz D }) e hd hv Pv h0 hG hs hn
theorem sp_PD {n : Nat} {R : List PyData → PyData → Prop} {dvs : List V} {dds : List PyData} (hv : ∀ H, DpAll K H dvs dds) (hn : (ds ++ dds).length = n) (h : R (ds ++ dds) z) : SpD K (spP K n R) dvs ds z :=
  fun vs H H1 x hd Q E q => ⟨H, ds ++ dds, z, x, hn, hd.append (hv H), h, q⟩
end
/-- if c: a call whose value is dropped -/
theorem qd_ifdrop {K : PySem.W.Frag} {σ : L2.St} {B H : Hp} {te : TE} {t : TT} {d : PyData} {D : Ends} {tz : TS} {c : Bool} (x : Ex B H) (h : EvT t σ B c) (h1 : c = true → EvD K te σ B d) (k : ∀ H1, Ex H H1 → tz D σ H1) : tSeq (tIfS t (tDrop te) tNext) tz D σ H :=
  qd_when x h (fun hc H1 e1 => sd_drop (x.trans e1) (h1 hc) fun H2 e2 => k H2 (e1.trans e2)) fun _ H1 e1 => k H1 e1
/-- a def whose last parameter has a default -/
theorem has_mkD {P : Program} {w : World} {K : PySem.W.Frag} {mg : Str → Option Value} {base : Heap} {CX : CXT} {x qual : Str} {st : Stmt} {f : Addr} {fd : FuncData} {k n : Nat} {N ps : List Str} {dvs : List V} {sp : Sp}
    (F : FunD K x qual (defArgs st) (defBody st) (defScope st) dvs [] f fd) (hm : mg x = some (.ref f)) (S : FnScope N ps (defScope st)) (len : ∀ vs H Q E, sp vs H Q E → vs.length = ps.length) (hd : dvs ≠ []) (hn : n + dvs.length = ps.length)
    (h : ∀ (T : Addr) (kV doc pm : Value) (an : Option Addr) (cdv ct : Value) (us its : List Value), us.length = n → its.length = dvs.length →
      ∃ k, bindArgs (PySem.W.fnOf x qual (defArgs st) (defBody st) (defScope st) (.ref T) kV doc pm an cdv ct) ⟨us, []⟩ = seqItems? (.ref T) >>= k ∧ k (some its.toArray) = pure (ps.zip (us ++ its)))
    (body : ∀ (cdv : Value) (A : Around) (outer : List Env) (s : Shared) (H : Hp) (vs : List V) (Q : VK) (E : XK), Room k (A.deeper (envOfC qual (defScope st) s.heap.objs.size f cdv)) → sp vs H Q E →
      ∃ t, PSs (cxOf CX P w K mg base N qual (defScope st) f cdv A outer s H E).nox (defBody st) t ∧ t { nx := fun _ H' => Q .non H', rt := Q } (start N vs) H) :
    Has P w K mg base CX x (k + 1) ps dvs sp := by
  obtain ⟨ds, hv, hb⟩ := F.binds1 n 0 hd (by simpa using hn) h
  refine ⟨f, fd, ds, F.ok S len fun cdv A outer s H vs Q E hr hs => ?_, hm, F.kp, hv, hb⟩
  obtain ⟨t, h1, h2⟩ := body cdv A outer s H vs Q E hr hs
  exact ⟨t, h1.nox, h2⟩
end Tb
end

section
set_option Elab.async false
set_option linter.all false
set_option maxRecDepth 100000
set_option maxHeartbeats 1000000
/-! Toss base 6: xs[:b] = ys. -/
namespace Tb
open PySem PySem.Spec PyProof.Rows L2 Evl

theorem bounds_head {c n : Nat} (hc : c ≤ n) : sliceBounds none (some (c : Int)) none n = ((0 : Int), (c : Int), 1) := by
  have h2 : ¬ ((c : Int) < 0) := by omega
  simp only [sliceBounds, Option.getD_none, h2, if_false, show (1 : Int) > 0 by decide, if_true]
  congr 1
  congr 1
  omega
/-- the machine's list store at a slice that begins at the list's begin -/
theorem set_head_raw {prog : Program} {w : World} {A : Around} {E : Value → Shared → Prop} {st : Shared} {l b sl : Addr} {its new : Array Value} {n n2 : Nat} {vu : Value} {c : Nat} {Q : Unit → Shared → Prop}
    (hl0 : st.heap.get? l = some { cls := .type "list", data := .seq its n }) (hb0 : st.heap.get? b = some { cls := .type "list", data := .seq new n2 }) (hne : l ≠ b) (hs : st.heap.IsSliceOf sl .none vu .none) (pu : IsPart vu (some (c : Int))) (hc : c ≤ its.size)
    (hsz : its.size + new.size ≤ sizeLine) (k : Q () { st with heap := st.heap.update l (Obj.mapSeq fun xs => xs.extract 0 0 ++ new ++ xs.extract c xs.size) }) :
    wpAny (model prog w) A (setItem (.ref l) (.ref sl) (.ref b)) Q E st := by
  have hl := PySem.IsL.isList hl0
  have hb := PySem.IsL.isList hb0
  obtain ⟨so, h1, h2, h3⟩ := id hs
  have tS : st.TypeIs (.ref sl) "slice" := ⟨so, h1, h2⟩
  have apart : Builtin.List.listSameRef (.ref l) (.ref b) = false := beq_eq_false_iff_ne.mpr hne
  have mx : (max (0 : Int) (c : Int)).toNat = c := by omega
  have z2 : ((fun xs : Array Value => xs.extract 0 0 ++ new ++ xs.extract c xs.size) its).size ≤ sizeLine + 1 := by simp only [Array.size_append, Array.size_extract]; omega
  unfold setItem
  try with_reducible refine wpAny_holding ?_
  refine wpAny_bind (wpAny_sequenceKey hl.typeIs (by decide) (wpAny_bind (wpAny_callSpecial?_slot (name := Str.ofString "__setitem__") hl.typeIs slot_list_setitem (wpAny_call_entry slot_list_setitem hl.typeIs entry_list_setitem ?_ (args_list_setitem _ _ _)))))
  show wpAny _ _ (Builtin.List.listSubscript? (.ref sl) >>= _) _ _ st
  unfold Builtin.List.listSubscript?
  refine wpAny_bind (wpAny_bind (wpAny_specialOf tS slice_no_index ?_))
  simp only [Option.isNone_none, if_true]
  refine wpAny_pure (show wpAny _ _ (typeOf (.ref sl) >>= _) _ _ st from wpAny_bind (wpAny_typeOf tS ?_))
  first | rw [if_neg (by decide)] | refine PySem.W.KFB.if_not (by decide) ?_
  rw [listSliceParts_eq]
  refine wpAny_bind (wpAny_bind (wpAny_field h1 h3 (x := .none) rfl (wpAny_bind (wpAny_listPart .none ?_))))
  rw [if_neg (show ¬ ((rawPart none == rawInt 0) = true) from Bool.false_ne_true)]
  refine wpAny_bind (wpAny_field h1 h3 (x := .none) rfl (wpAny_bind (wpAny_listPart .none (wpAny_bind (wpAny_field h1 h3 (x := vu) rfl (wpAny_bind (wpAny_listPart pu (wpAny_pure ?_))))))))
  first | simp only [apart, Bool.false_eq_true, if_false] | refine PySem.W.KFB.if_not apart ?_ | (dsimp only; rw [if_neg (by rw [apart]; exact Bool.false_ne_true)])
  unfold Builtin.List.listAllItems
  refine wpAny_bind (wpAny_bind (wpAny_typeOf hb.typeIs ?_))
  first | refine PySem.W.KFB.if_so (by decide) ?_ | rw [if_pos (by decide)] | simp only [beq_self_eq_true, Bool.true_or, if_true]
  unfold Builtin.List.listItems
  refine wpAny_bind (wpAny_seqItems hb0 rfl (wpAny_pure (wpAny_bind (wpAny_bind (wpAny_seqItems hl0 rfl (wpAny_pure ?_))))))
  refine wpAny_bind (wpAny_of_eq ((sliceIndices_raw none (some (c : Int)) none its.size (by simp)).trans (congrArg (pure : Int × Int × Int → Sem (Int × Int × Int)) (bounds_head hc))) ?_)
  show wpAny _ _ (if ((1 : Int) == 1) = true then _ else _) _ _ st
  rw [if_pos (by decide)]
  refine wpAny_bind (wpAny_rule ?_)
  first | simp only [notLongL hsz, Bool.false_eq_true, if_false] | refine PySem.W.KFB.if_not (notLongL hsz) ?_
  try refine wpAny_bind (wpAny_pure ?_)
  show wpAny _ _ (updateSeq l (fun xs => xs.extract 0 ((0 : Int)).toNat ++ new ++ xs.extract (max (0 : Int) (c : Int)).toNat xs.size) >>= _) _ _ st
  rw [mx]
  refine wpAny_bind (wpAny_updateSeq (hz := Nat.le_trans (Nat.le_add_right _ _) hsz) (_hz' := z2) hl0 rfl (wpAny_bind (wpAny_letGo ?_)))
  first | exact wpAny_bind (wpAny_pure (wpAny_pure ⟨.none, rfl, wpAny_pure k⟩)) | exact wpAny_pure ⟨.none, rfl, wpAny_pure k⟩

/-- name[:hi] = a list -/
def gHead (to : TE) (th : TO) : TG := fun v σ H Q => to σ H fun o H1 => th σ H1 fun u H2 => ∃ (l b : Addr) (xs ys : List V) (c : Nat), o = .ref l ∧ u = some (c : Int) ∧ v = .ref b ∧ H2 l = some (.lst xs) ∧ H2 b = some (.lst ys) ∧ l ≠ b ∧ c ≤ xs.length ∧
  xs.length + ys.length ≤ sizeLine ∧ Q σ (upd H2 l (.lst (ys ++ xs.drop c)))
theorem pg_head {X : Cx} {pos p2 : Pos} {o : Expr} {hi : Option Expr} {to : TE} {th : TO} (ho : PE X o to) (hh : PO X hi th)
    (hx : ∀ v, assign (.Subscript o (.Slice none hi none p2) pos) X.env v = (do
      let ov ← holding [v] (eval o X.env)
      let iv ← holding [v, ov] (eval (.Slice none hi none p2) X.env)
      standAt pos
      holding [v, ov, iv] (setItem ov iv v)
      release [iv, v, ov] []) := by intro _; rfl) : PG X (.Subscript o (.Slice none hi none p2) pos) (gHead to th) := by
  refine ⟨fun pns st σ H v u Q I r h => ?_⟩
  rw [hx]
  refine wpAny_bind (wpAny_holding (thn (ho.run pns st σ H _ I h) fun ov st1 ⟨x, H1, I1, r1, q1⟩ => wpAny_bind (wpAny_holding (wpAny_Slice ?_))))
  rw [evalPart_none]
  refine wpAny_pure (thn (hh.run pns st1 σ H1 _ I1 q1) fun vu st2 ⟨u2, H2, I2, pu, q2⟩ => wpAny_pure ?_)
  obtain ⟨l, b, xs, ys, c, rfl, rfl, rfl, hl, hb, hne, hc, hz, q⟩ := q2
  cases r1
  cases r
  have I3 : Inv X pns σ H2 { st2 with heap := st2.heap.push { cls := .type "slice", data := .fields #[.none, vu, .none] } } := I2.kept (t' := st2.toks) fun _ _ z => Heap.get?_push_of_some _ z
  obtain ⟨z, its, n, rx, hxl, e⟩ := I3.lstM hl
  obtain ⟨z2, its2, n2, ry, hyl, e2⟩ := I3.lstM hb
  refine wpAny_bind (wpAny_standAt (wpAny_bind (wpAny_holding (set_head_raw e e2 hne (Heap.IsSliceOf.new ..) pu (by rw [List.size_toArray]; omega) (by rw [List.size_toArray, List.size_toArray]; omega) (wpAny_release ⟨σ, _, ?_, q⟩)))))
  refine I3.lset (its' := its2 ++ its.drop c) (t' := st2.toks) hl e ?_ (Vals.append ry (rx.drop _)) ?_
  · exact (splice_eq its its2 0 c).trans (by rw [List.take_zero, List.nil_append])
  · rw [List.length_append, List.length_drop]
    omega
end Tb
end

section
set_option Elab.async false
set_option linter.all false
set_option maxRecDepth 100000
set_option maxHeartbeats 1000000
/-! Toss base 7: lists that grow, slices, reversed rows, comprehensions over enumerate and over two. -/
namespace Tb
open PySem PySem.Spec PyProof.Rows L2 Evl

section
variable {K : PySem.W.Frag} {σ σ2 : L2.St} {B H H' : Hp} {ta tb te tx tl : TE} {t u : TT} {d e z : PyData} {ds es : List PyData} {D : Ends} {tu tw tz : TS} {g : TG} {b : Bool} {v : V} {vs : List Nat}
/-- name.append(e): the list at l stands apart from B -/
theorem sd_append {j : Nat} {l : Addr} {xs : List V} (x : Ex B H) (hl : H l = some (.lst xs)) (h0 : B l = none) (hj : σ[j]? = some (some (.ref l))) (h : EvD K te σ B d) (hz : xs.length < 100000)
    (k : ∀ w G H2, Gr B H G H2 → G l = none → H2 l = some (.lst xs) → Dp K G w d → D.nx σ (upd H2 l (.lst (xs ++ [w])))) : tDrop (tBM K "list" rAppend (tVar j) (tCons te tNil)) D σ H :=
  ⟨_, hj, .inl ⟨rfl, xs, sq_of hl⟩, h H x _ fun w G H2 g hw => by
    have h2 : H2 l = some (.lst xs) := g.h12 _ _ hl
    exact ⟨l, xs, w, rfl, rfl, h2, sz_lt hz, k w G H2 g (g.sep l h0 (by rw [hl]; exact fun z => nomatch z)) h2 hw⟩⟩
theorem qd_append {j : Nat} {l : Addr} {xs : List V} (x : Ex B H) (hl : H l = some (.lst xs)) (h0 : B l = none) (hj : σ[j]? = some (some (.ref l))) (h : EvD K te σ B d) (hz : xs.length < 100000)
    (k : ∀ w G H2, Gr B H G H2 → G l = none → H2 l = some (.lst xs) → Dp K G w d → tz D σ (upd H2 l (.lst (xs ++ [w])))) : tSeq (tDrop (tBM K "list" rAppend (tVar j) (tCons te tNil))) tz D σ H := sd_append (D := { D with nx := tz D }) x hl h0 hj h hz k
/-- what B knows stays when the list at l changes -/
theorem ex_upd {l : Addr} {o : HO} (x : Ex B H) (h0 : B l = none) : Ex B (upd H l o) := Ex.mut x h0
/-- list * int -/
theorem dl_rep {k : Int} (ha : EvDL K ta σ H ds) (hb : EvD K tb σ H (.int k)) (h1 : 0 ≤ k) (h2 : k ≤ 1000) (hl : ds.length ≤ 1000) : EvDL K (tOp rRep ta tb) σ H (List.replicate k.toNat ds).flatten := fun H1 x Q q =>
  ha H1 x _ fun p xs G2 H2 g0 h0 g2 hp hxs => hb.mono g2.hg H2 g2.g2 _ fun w G3 H3 g3 hw => by
    have hk := hw.int_of
    subst hk
    have hxl := hxs.length
    have hm : xs.length * k.toNat ≤ 1000 * 1000 := Nat.mul_le_mul (by omega) (by omega)
    have hfl : DpAll K G3 (List.replicate k.toNat xs).flatten (List.replicate k.toNat ds).flatten := by
      generalize k.toNat = n
      induction n with
      | zero => exact .nil
      | succ n ih =>
        rw [List.replicate_succ, List.replicate_succ, List.flatten_cons, List.flatten_cons]
        exact (dpa_mono g3.hg hxs).append ih
    refine ⟨p, k, xs, rfl, rfl, g3.h12 _ _ hp, by omega, by omega, Nat.le_trans hm (by decide), fun p2 hp2 => ?_⟩
    exact q p2 _ G3 _ (fresh_back g3.g2 hp2) (fresh_back (g2.h12.trans g3.h12) hp2) ((g2.trans g3).trans (Gr.mut g3.g2 hp2)) upd_same hfl
/-- xs[:c] of a list that may change later -/
theorem cut_head {α : Type} (xs : List V) (c : Nat) (hc : c ≤ xs.length) : cutV xs none (some (c : Int)) = xs.take c := by
  unfold cutV
  rw [HT.sIx_none, HT.sIx_nat]
  have e : min c xs.length = c := by omega
  rw [e]
  rfl
/-- enumerate in a comprehension, counted from k0 -/
theorem lc_turn {G1 H2 Hc : Hp} {Dl : Addr} {ys : List V} (hD : H2 Dl = none) (a1 : B Dl = none) (a2 : Gr G1 H2 B Hc) (a3 : Hc Dl = some (.lst ys)) (a4 : DpAll K B ys es) (hlen : ys.length ≤ 50000) (o : Option PyData) (ht : EvT t σ2 B o.isSome)
    (he : ∀ e, o = some e → EvD K te σ2 B e) {P : Hp → Prop} (hP : ∀ G' ys' H', G' Dl = none → Gr G1 H2 G' H' → H' Dl = some (.lst ys') → DpAll K G' ys' (es ++ o.toList) → P H') :
    t σ2 Hc fun b H3 => if b = true then te σ2 H3 fun w H4 => ∃ acc, H4 Dl = some (.lst acc) ∧ acc.length < sizeLine ∧ P (upd H4 Dl (.lst (acc ++ [w]))) else P H3 := by
  refine ht Hc a2.g2 _ fun H3 e3 => ?_
  cases o with
  | none =>
    show P H3
    exact hP B ys H3 a1 ⟨a2.hg, a2.g2.trans e3, a2.h12.trans e3, a2.sep⟩ (e3 _ _ a3) (by simpa using a4)
  | some e =>
    show te σ2 H3 fun w H4 => ∃ acc, H4 Dl = some (.lst acc) ∧ acc.length < sizeLine ∧ P (upd H4 Dl (.lst (acc ++ [w])))
    refine he e rfl H3 (a2.g2.trans e3) _ fun w G4 H4 g4 hw4 => ?_
    have hG4 : G4 Dl = none := g4.sep Dl a1 (by rw [e3 _ _ a3]; exact fun z => nomatch z)
    refine ⟨ys, g4.h12 _ _ (e3 _ _ a3), sz_lt (by omega), hP G4 _ _ hG4 ⟨a2.hg.trans g4.hg, fun b u hu => ?_, Ex.mut ((a2.h12.trans e3).trans g4.h12) hD, fun b h1 h2 => ?_⟩ upd_same ((dpa_mono g4.hg a4).append (.one hw4))⟩
    · rw [upd_ne (ne_of_none hu hG4)]
      exact g4.g2 b u hu
    · refine g4.sep b (a2.sep b h1 h2) fun z => ?_
      cases q2 : H2 b with
      | none => exact h2 q2
      | some o =>
        rw [(a2.h12.trans e3) b o q2] at z
        cases z
theorem gr_more {G1 H2 G Hc Hd : Hp} (a : Gr G1 H2 G Hc) (e : Ex Hc Hd) : Gr G1 H2 G Hd := ⟨a.hg, a.g2.trans e, a.h12.trans e, a.sep⟩
def mapFrom (k0 : Int) (f : Int → PyData → PyData) : List PyData → List PyData
  | [] => []
  | d :: ds => f k0 d :: mapFrom (k0 + 1) f ds
theorem mapFrom_snoc (f : Int → PyData → PyData) (d : PyData) : ∀ (ds : List PyData) (k0 : Int), mapFrom k0 f (ds ++ [d]) = mapFrom k0 f ds ++ [f (k0 + (ds.length : Int)) d]
  | [], k0 => by
    show [f k0 d] = [f (k0 + ((0 : Nat) : Int)) d]
    rw [show k0 + ((0 : Nat) : Int) = k0 by omega]
  | x :: ds, k0 => by
    show f k0 x :: mapFrom (k0 + 1) f (ds ++ [d]) = f k0 x :: (mapFrom (k0 + 1) f ds ++ [_])
    rw [mapFrom_snoc f d ds (k0 + 1)]
    congr 3
    rw [List.length_cons]
    congr 1
    omega
theorem mapFrom_length (f : Int → PyData → PyData) : ∀ (ds : List PyData) (k0 : Int), (mapFrom k0 f ds).length = ds.length
  | [], _ => rfl
  | d :: ds, k0 => congrArg Nat.succ (mapFrom_length f ds (k0 + 1))
theorem dl_lcE {j i c : Nat} {k0 : Int} (f : Int → PyData → PyData) (hd : Dp K H v (rows b ds)) (hv : σ[j]? = some (some v)) (hl : ds.length ≤ 40000) (h1 : -(2 ^ 63) ≤ k0) (h2 : k0 < 2 ^ 63) (hw : ∀ y w, wipe (((wipe σ vs).set i (some y)).set c (some w)) vs = wipe σ vs)
    (he : ∀ (n : Nat) (d : PyData) (y : V) (G : Hp), ds[n]? = some d → Ex H G → Dp K G y d → EvD K te (((wipe σ vs).set i (some (.int (k0 + (n : Int))))).set c (some y)) G (f (k0 + (n : Int)) d)) :
    EvDL K (tLc (iEnumS K (tCons (tVar j) tNil) (tCons (tC (.int k0)) tNil)) (gRow K 2 (gCons (gName i) (gCons (gName c) gNil))) tYes te vs) σ H (mapFrom k0 f ds) := fun H1 x Q q => by
  obtain ⟨a, xs, rfl, hr, ha⟩ := row_of hd
  have hxl := ha.length
  let Pv : Addr → Nat → Hp → Prop := fun Dl n H' => ∃ G ys, G Dl = none ∧ Gr H H1 G H' ∧ H' Dl = some (.lst ys) ∧ DpAll K G ys (mapFrom k0 f (ds.take n))
  have h0 : ∀ Dl, H1 Dl = none → Pv Dl 0 (upd H1 Dl (.lst [])) := fun Dl hD => ⟨H, [], fresh_back x hD, Gr.mut x hD, upd_same, .nil⟩
  have fin : ∀ Dl, H1 Dl = none → ∀ H', Pv Dl ds.length H' → Q (.ref Dl) H' := fun Dl hD H' ⟨G, ys, a1, a2, a3, a4⟩ => by
    rw [List.take_length] at a4
    exact q Dl ys G H' a1 hD a2 a3 a4
  have turn : ∀ Dl, H1 Dl = none → ∀ (n : Nat) (y : V) (H' H'' : Hp), n < xs.length → Pv Dl n H' → (∃ T w, y = .ref T ∧ H' T = none ∧ H'' = upd H' T (.tup [.int (k0 + (n : Nat)), w]) ∧ xs[n]? = some w) →
      gRow K 2 (gCons (gName i) (gCons (gName c) gNil)) y (wipe σ vs) H'' fun σ2 H2' => wipe σ2 vs = wipe σ vs ∧ tYes σ2 H2' fun b H3 =>
        if b = true then te σ2 H3 fun w H4 => ∃ acc, H4 Dl = some (.lst acc) ∧ acc.length < sizeLine ∧ Pv Dl (n + 1) (upd H4 Dl (.lst (acc ++ [w]))) else Pv Dl (n + 1) H3 := by
    rintro Dl hD n y H' H'' hn ⟨G, ys, a1, a2, a3, a4⟩ ⟨T, w, rfl, hT, rfl, hx⟩
    obtain ⟨d, hdi, hdy⟩ := ha.get hx
    refine ⟨T, [.int (k0 + (n : Nat)), w], rfl, .inr (st_of upd_same), rfl, _, _, rfl, _, _, rfl, rfl, hw _ _, ?_⟩
    have hlen : ys.length ≤ 50000 := by
      rw [a4.length, mapFrom_length, List.length_take]
      omega
    refine lc_turn hD a1 (gr_more a2 (Ex.new hT)) (Ex.new hT _ _ a3) a4 hlen (some (f (k0 + (n : Int)) d)) et_yes (fun e ee => ?_) fun G' ys' H3 b1 b2 b3 b4 => ⟨G', ys', b1, b2, b3, ?_⟩
    · cases ee
      exact he n d w G hdi a2.hg (dp_mono a2.hg hdy)
    · rw [List.take_add_one, hdi]
      show DpAll K G' ys' (mapFrom k0 f (ds.take n ++ [d]))
      rw [mapFrom_snoc, List.length_take, show min n ds.length = n by omega]
      exact b4
  have Gstay : ∀ Dl n H', Pv Dl n H' → Ex H H' := fun Dl n H' ⟨G, ys, _, a2, _⟩ => a2.hg.trans a2.g2
  refine ⟨_, hv, .ref a, k0, rfl, rfl, h1, h2, a, rfl, ?_⟩
  rcases hr with hr | hr
  · exact .inl ⟨⟨xs, ex_l x hr⟩, fun Dl hD => lc_it walk_enumL (Pv Dl) (h0 Dl hD) (fun n H' _ p => ex_l (Gstay Dl n H' p) hr) (turn Dl hD) (by rw [hxl]; exact fin Dl hD)⟩
  · exact .inr ⟨⟨xs, ex_t x hr⟩, fun Dl hD => lc_it walk_enumT (Pv Dl) (h0 Dl hD) (fun n H' _ p => ex_t (Gstay Dl n H' p) hr) (turn Dl hD) (by rw [hxl]; exact fin Dl hD)⟩

/-! ### reversed -/
theorem walk_revT {a : Addr} {xs : List V} : Walk (RT.ItvT K a xs.length) xs.length (fun H => SqT K H a xs) (fun i H x H' => H' = H ∧ xs[xs.length - 1 - i]? = some x) :=
  ⟨fun i _ hi q => ⟨hi, xs, xs[xs.length - 1 - i]'(by omega), q, by simp [show xs.length - 1 - i < xs.length by omega]⟩, fun _ _ => Nat.le_refl _, fun _ _ _ _ _ q y => ⟨y.1, y.2 xs q⟩⟩
theorem sd_forRev {j : Nat} (e : Ex B H) (hd : Dp K B v (rows b ds)) (hv : σ[j]? = some (some v)) (Pv : Nat → L2.St → Hp → Prop) (h0 : Pv 0 σ H) (hG : ∀ i σ' H', i ≤ ds.length → Pv i σ' H' → Ex B H')
    (hs : ∀ i d x σ' H', i < ds.length → ds[ds.length - 1 - i]? = some d → Dp K B x d → Pv i σ' H' → g x σ' H' fun σ2 H2 => tu { D with nx := Pv (i + 1), ct := Pv (i + 1), bk := D.nx } σ2 H2)
    (hn : ∀ σ' H', Pv ds.length σ' H' → D.nx σ' H') : tFor (RT.iRevA K (tVar j)) g tu D σ H := by
  obtain ⟨a, xs, rfl, hr, ha⟩ := row_of hd
  have hl := ha.length
  have turn : ∀ (i : Nat) (x : V) (σ' : L2.St) (H1 H1' : Hp), i < xs.length → Pv i σ' H1 → (H1' = H1 ∧ xs[xs.length - 1 - i]? = some x) → g x σ' H1' fun σ2 H2 => tu { D with nx := Pv (i + 1), ct := Pv (i + 1), bk := D.nx } σ2 H2 := by
    rintro i x σ' H1 _ hi p ⟨rfl, hx⟩
    obtain ⟨d, h1, h2⟩ := ha.get hx
    rw [hl] at h1
    exact hs i d x σ' _ (by omega) h1 h2 p
  refine ⟨_, hv, a, xs, rfl, ?_⟩
  rcases hr with hr | hr
  · exact .inl ⟨ex_l e hr, for_it walk_rev Pv h0 (fun i σ' H' hi p => ex_l (hG i σ' H' (by omega) p) hr) turn (by rw [hl]; exact hn)⟩
  · exact .inr ⟨ex_t e hr, for_it walk_revT Pv h0 (fun i σ' H' hi p => ex_t (hG i σ' H' (by omega) p) hr) turn (by rw [hl]; exact hn)⟩
theorem qd_forRev {j : Nat} (e : Ex B H) (hd : Dp K B v (rows b ds)) (hv : σ[j]? = some (some v)) (Pv : Nat → L2.St → Hp → Prop) (h0 : Pv 0 σ H) (hG : ∀ i σ' H', i ≤ ds.length → Pv i σ' H' → Ex B H')
    (hs : ∀ i d x σ' H', i < ds.length → ds[ds.length - 1 - i]? = some d → Dp K B x d → Pv i σ' H' → g x σ' H' fun σ2 H2 => tu { D with nx := Pv (i + 1), ct := Pv (i + 1), bk := tz D } σ2 H2)
    (hn : ∀ σ' H', Pv ds.length σ' H' → tz D σ' H') : tSeq (tFor (RT.iRevA K (tVar j)) g tu) tz D σ H := sd_forRev (D := { D with nx := tz D }) e hd hv Pv h0 hG hs hn

/-- [x for part in reversed(row of lists) for x in part] -/
theorem dl_lc2rev {j a c : Nat} {dss : List (List PyData)} (hd : Dp K H v (rows b (dss.map .list))) (hv : σ[j]? = some (some v)) (hl : dss.flatten.length ≤ 40000) (hac : a ≠ c) (ha' : a < σ.length) (hc' : c < σ.length)
    (hw : ∀ y, wipe ((wipe σ [a, c]).set a (some y)) [a, c] = wipe σ [a, c]) (hw1 : ∀ y z, wipe ((wipe ((wipe σ [a, c]).set a (some y)) [c]).set c (some z)) [c] = wipe ((wipe σ [a, c]).set a (some y)) [c]) :
    EvDL K (tLc2 (RT.iRevA K (tVar j)) (gName a) tYes (iRow K (tVar a)) (gName c) tYes (tVar c) [a, c] [c]) σ H dss.reverse.flatten := fun H1 x Q q => by
  obtain ⟨ad, xs, rfl, hr, hx⟩ := row_of hd
  have hxl : xs.length = dss.length := by rw [hx.length, List.length_map]
  let Pd : Addr → List PyData → Hp → Prop := fun Dl es H' => ∃ G ys, G Dl = none ∧ Gr H H1 G H' ∧ H' Dl = some (.lst ys) ∧ DpAll K G ys es
  have stay : ∀ Dl es H', Pd Dl es H' → Ex H H' := fun Dl es H' ⟨G, ys, _, a2, _⟩ => a2.hg.trans a2.g2
  have fl : ∀ i, ((dss.reverse.take i).flatten).length ≤ 40000 := fun i => by
    have h1 : ((dss.reverse.take i).flatten).length ≤ (dss.reverse.flatten).length := by
      rw [← List.take_append_drop i dss.reverse, List.flatten_append, List.length_append, List.take_append_drop]
      omega
    have h2 : (dss.reverse.flatten).length = dss.flatten.length := by
      rw [List.length_flatten, List.length_flatten, List.map_reverse, List.sum_reverse]
    omega
  -- one outer turn
  have turn : ∀ Dl, H1 Dl = none → ∀ (i : Nat) (y : V) (H' : Hp), i < xs.length → xs[xs.length - 1 - i]? = some y → Pd Dl (dss.reverse.take i).flatten H' →
      ∃ (σ2 : L2.St), σ2 = (wipe σ [a, c]).set a (some y) ∧ (iRow K (tVar a)) σ2 H' fun J1 H4 => ∃ W1 : Nat → Nat → Hp → Prop, (∃ m, W1 0 m H4) ∧ ∀ j' k H, W1 j' k H →
        (J1.stop j' H ∧ Pd Dl (dss.reverse.take (i + 1)).flatten H) ∨ (J1.go j' H ∧ ∃ Nx1 : Hp → Prop, (∀ H', Nx1 H' → ∃ k', k' < k ∧ W1 (j' + 1) k' H') ∧ ∀ x H', J1.yld j' H x H' → (gName c) x (wipe σ2 [c]) H' fun σ3 H5 => wipe σ3 [c] = wipe σ2 [c] ∧ tYes σ3 H5 fun b H6 =>
          if b = true then (tVar c) σ3 H6 fun y H7 => ∃ acc, H7 Dl = some (.lst acc) ∧ acc.length < sizeLine ∧ Nx1 (upd H7 Dl (.lst (acc ++ [y]))) else Nx1 H6) := by
    intro Dl hD i y H' hi hy p
    obtain ⟨d, h1, h2⟩ := hx.get hy
    rw [hxl, List.getElem?_map] at h1
    have hrev : dss.reverse[i]? = dss[dss.length - 1 - i]? := List.getElem?_reverse (by omega)
    cases hq : dss[dss.length - 1 - i]? with
    | none =>
      rw [hq] at h1
      cases h1
    | some es =>
      rw [hq] at h1
      cases h1
      rw [hq] at hrev
      have hnext : (dss.reverse.take (i + 1)).flatten = (dss.reverse.take i).flatten ++ es := by
        rw [List.take_add_one, hrev, List.flatten_append]
        simp
      obtain ⟨q1, ys, rfl, hs, hes⟩ := Dp.lst_of h2
      have hel := hes.length
      have hlen1 := fl (i + 1)
      rw [hnext, List.length_append] at hlen1
      refine ⟨_, rfl, _, by rw [List.getElem?_set_self (by rw [wipe_length]; exact ha')], q1, rfl, .inl ⟨⟨ys, ex_l (stay Dl _ H' p) hs⟩, ?_⟩⟩
      refine ⟨fun j' k H' => k = ys.length - j' ∧ j' ≤ ys.length ∧ Pd Dl ((dss.reverse.take i).flatten ++ es.take j') H', ⟨ys.length, rfl, Nat.zero_le _, by simpa using p⟩, ?_⟩
      rintro j' k H'' ⟨rfl, hj, p'⟩
      by_cases hlt : j' < ys.length
      · refine .inr ⟨⟨ys, ys[j'], ex_l (stay Dl _ H'' p') hs, by simp [hlt]⟩, fun H3 => Pd Dl ((dss.reverse.take i).flatten ++ es.take (j' + 1)) H3, fun H3 p3 => ⟨ys.length - (j' + 1), by omega, rfl, hlt, p3⟩, fun z H3 hz => ?_⟩
        obtain ⟨rfl, hz⟩ := hz
        have hzi := hz ys (ex_l (stay Dl _ _ p') hs)
        obtain ⟨d', h3, h4⟩ := hes.get hzi
        refine ⟨hw1 _ _, ?_⟩
        obtain ⟨G, acc, a1, a2, a3, a4⟩ := p'
        have hlc : acc.length ≤ 50000 := by
          rw [a4.length, List.length_append, List.length_take]
          omega
        have tk : (dss.reverse.take i).flatten ++ es.take (j' + 1) = ((dss.reverse.take i).flatten ++ es.take j') ++ (some d').toList := by
          rw [List.take_add_one, h3, List.append_assoc]
        refine lc_turn (o := some d') hD a1 a2 a3 a4 hlc et_yes (fun e ee => ?_) fun G' ys' H5 b1 b2 b3 b4 => ⟨G', ys', b1, b2, b3, by rw [tk]; exact b4⟩
        cases ee
        refine d_var ?_ (dp_mono a2.hg h4)
        rw [List.getElem?_set_self]
        rw [wipe_length, List.length_set, wipe_length]
        exact hc'
      · have ej : j' = ys.length := by omega
        subst ej
        rw [hel, List.take_length, ← hnext] at p'
        exact .inl ⟨⟨ys, ex_l (stay Dl _ H'' p') hs, Nat.le_refl _⟩, p'⟩
  have go : ∀ (J : It) (Gx : Hp → Prop), Walk J xs.length Gx (fun i H x H' => H' = H ∧ xs[xs.length - 1 - i]? = some x) → (∀ H', Ex H H' → Gx H') → ∀ Dl, H1 Dl = none → ∃ W : Nat → Nat → Hp → Prop, (∃ m, W 0 m (upd H1 Dl (.lst []))) ∧ ∀ i m H, W i m H →
      (J.stop i H ∧ Q (.ref Dl) H) ∨ (J.go i H ∧ ∃ Nx : Hp → Prop, (∀ H', Nx H' → ∃ m', m' < m ∧ W (i + 1) m' H') ∧ ∀ x H', J.yld i H x H' → (gName a) x (wipe σ [a, c]) H' fun σ2 H2 => wipe σ2 [a, c] = wipe σ [a, c] ∧ tYes σ2 H2 fun b H3 =>
        if b = true then (iRow K (tVar a)) σ2 H3 fun J1 H4 => ∃ W1 : Nat → Nat → Hp → Prop, (∃ m, W1 0 m H4) ∧ ∀ j k H, W1 j k H →
          (J1.stop j H ∧ Nx H) ∨ (J1.go j H ∧ ∃ Nx1 : Hp → Prop, (∀ H', Nx1 H' → ∃ k', k' < k ∧ W1 (j + 1) k' H') ∧ ∀ x H', J1.yld j H x H' → (gName c) x (wipe σ2 [c]) H' fun σ3 H5 => wipe σ3 [c] = wipe σ2 [c] ∧ tYes σ3 H5 fun b H6 =>
            if b = true then (tVar c) σ3 H6 fun y H7 => ∃ acc, H7 Dl = some (.lst acc) ∧ acc.length < sizeLine ∧ Nx1 (upd H7 Dl (.lst (acc ++ [y]))) else Nx1 H6)
        else Nx H3) := by
    intro J Gx wk hGx Dl hD
    refine ⟨fun i m H' => m = xs.length - i ∧ i ≤ xs.length ∧ Pd Dl (dss.reverse.take i).flatten H', ⟨xs.length, rfl, Nat.zero_le _, H, [], fresh_back x hD, Gr.mut x hD, upd_same, .nil⟩, ?_⟩
    rintro i m H' ⟨rfl, hi, p⟩
    have hg := hGx H' (stay Dl _ H' p)
    by_cases hlt : i < xs.length
    · refine .inr ⟨wk.goes i H' hlt hg, fun H3 => Pd Dl (dss.reverse.take (i + 1)).flatten H3, fun H3 p3 => ⟨xs.length - (i + 1), by omega, rfl, hlt, p3⟩, fun y H3 hy => ?_⟩
      obtain ⟨e1, hy2⟩ := wk.yields i H' y H3 hlt hg hy
      subst e1
      obtain ⟨σ2, rfl, h2⟩ := turn Dl hD i y _ hlt hy2 p
      exact ⟨hw y, h2⟩
    · have ei : i = xs.length := by omega
      subst ei
      refine .inl ⟨wk.stops H' hg, ?_⟩
      rw [hxl, ← List.length_reverse, List.take_length] at p
      obtain ⟨G, ys, a1, a2, a3, a4⟩ := p
      exact q Dl ys G H' a1 hD a2 a3 a4
  refine ⟨_, hv, ad, xs, rfl, ?_⟩
  rcases hr with hr | hr
  · exact .inl ⟨ex_l x hr, fun Dl hD => go _ _ walk_rev (fun H' e => ex_l e hr) Dl hD⟩
  · exact .inr ⟨ex_t x hr, fun Dl hD => go _ _ walk_revT (fun H' e => ex_t e hr) Dl hD⟩
end
end Tb
end

section
set_option Elab.async false
set_option linter.all false
set_option maxRecDepth 100000
set_option maxHeartbeats 1000000
/-! Toss base 8: a tuple whose object is known, dict(towers), loops over new rows, list(range), a row and another one. -/
namespace Tb
open PySem PySem.Spec PyProof.Rows L2 Evl

section
variable {X : Cx}
/-- tuple(a list): a new tuple, its object known (it has no dict) -/
theorem call_tuple_fz : CallR X (.type "tuple") (fun xs H Q => ∃ p ys, xs = [V.ref p] ∧ SqL X.K H p ys ∧ ∀ l o, H l = none → o.cls = .type "tuple" → o.dict = none → Q (.ref l) (upd H l (.frz o (.tup ys)))) := by
  intro pns st σ H xs us Q I r h
  obtain ⟨p, ys, rfl, hq, q⟩ := h
  obtain ⟨u, rfl, rx⟩ := vals1 r
  cases rx
  obtain ⟨its, r', pl, hz⟩ := I.list hq
  have hlen := r'.length
  refine call_tuple_list pl.isList (fun h' kp => ?_) (by simp only [List.size_toArray] <;> omega)
  have I1 : Inv X pns σ H { st with heap := h' } := I.kept (t' := st.toks) kp
  have hget : (h'.push { cls := .type "tuple", data := .seq its.toArray }).get? h'.objs.size = some { cls := .type "tuple", data := .seq its.toArray } := Heap.get?_push_size _ rfl
  have I2 : Inv X pns σ (upd H h'.objs.size (.frz { cls := .type "tuple", data := .seq its.toArray } (.tup ys))) { st with heap := h'.push { cls := .type "tuple", data := .seq its.toArray } } :=
    I1.laid (t' := st.toks) (fun _ _ z => Heap.get?_push_of_some _ z) (Nat.le_refl _) (show ObjOk X.prog X.w _ _ _ (.frz _ (.tup ys)) from ⟨hget, hz, its, r', IsTup.new _ _⟩)
  exact ⟨.ref h'.objs.size, _, I2, rfl, q _ _ (I1.hok.fresh (Nat.le_refl _)) rfl rfl⟩
/-- dict(a tuple of pairs) -/
theorem call_dict_fz (hc : X.calm = true) : CallR X (.type "dict") (fun xs H Q => ∃ (a : Addr) (o : Obj) (ps : List Addr) (kvs : List (Key × V)), xs = [V.ref a] ∧ H a = some (.frz o (.tup (ps.map V.ref))) ∧ o.cls = .type "tuple" ∧ o.dict = none ∧
    Paired (fun p kv => SqT X.K H p [kV kv.1, kv.2]) ps kvs ∧ ∀ p, H p = none → Q (.ref p) (upd H p (.dK (mergeK [] kvs)))) := by
  intro pns st σ H xs us Q I r h
  obtain ⟨a, o, ps, kvs, rfl, ha, hcl, hdn, hp, q⟩ := h
  obtain ⟨u, rfl, rx⟩ := vals1 r
  cases rx
  obtain ⟨hget, hz, its, rv, ht⟩ := (show ObjOk X.prog X.w H st.heap a (.frz o (.tup (ps.map V.ref))) from I.hok a _ ha)
  have ei := refs_at rv
  subst ei
  rw [List.length_map] at hz
  obtain ⟨prs, rel, hl, hpr⟩ := pairs_of I hp
  obtain ⟨o2, ho2, hc2, n, hd2⟩ := ht
  rw [hget] at ho2
  cases ho2
  -- the keys as they stand
  have hks : ∃ ws : List (Value × Value), ws.length = prs.length ∧ ∀ (j : Nat) (k v : Value), ws[j]? = some (k, v) → ∃ b q', ps[j]? = some b ∧ prs[j]? = some q' ∧ v = q'.2 ∧ IsTup st.heap b #[k, v] ∧ keyIs q'.1 k = true := by
    have all : ∀ m, m ≤ prs.length → ∃ ws : List (Value × Value), ws.length = m ∧ ∀ (j : Nat) (k v : Value), ws[j]? = some (k, v) → ∃ b q', ps[j]? = some b ∧ prs[j]? = some q' ∧ v = q'.2 ∧ IsTup st.heap b #[k, v] ∧ keyIs q'.1 k = true := by
      intro m
      induction m with
      | zero => exact fun _ => ⟨[], rfl, fun j k v e => by simp at e⟩
      | succ m ih =>
        intro hm
        obtain ⟨ws, h1, h2⟩ := ih (by omega)
        have hlt : m < prs.length := by omega
        obtain ⟨b, u, e1, e2, e3⟩ := hpr m prs[m] (List.getElem?_eq_getElem hlt)
        refine ⟨ws ++ [(u, prs[m].2)], by rw [List.length_append, h1]; rfl, fun j k v e => ?_⟩
        by_cases hj : j < ws.length
        · rw [List.getElem?_append_left hj] at e
          exact h2 j k v e
        · rw [List.getElem?_append_right (by omega)] at e
          have hj2 : j = m := by
            by_cases z : j - ws.length = 0
            · omega
            · obtain ⟨c, hc⟩ : ∃ c, j - ws.length = c + 1 := ⟨j - ws.length - 1, by omega⟩
              rw [hc] at e
              simp at e
          subst hj2
          rw [h1, Nat.sub_self] at e
          cases e
          exact ⟨b, _, e1, List.getElem?_eq_getElem hlt, rfl, e2, e3⟩
    exact all _ (Nat.le_refl _)
  obtain ⟨ws, hwl, hws⟩ := hks
  let Ts : Nat → Addr := fun j => ps.getD j 0
  have ok : PlainSeq "tuple" st.heap a (ps.map Value.ref).toArray ∧ PairItems st.heap (ps.map Value.ref).toArray Ts ws := by
    refine ⟨⟨o, n, hget, hcl, hdn, hd2⟩, by simp [hwl, hl], fun j k v e => ?_⟩
    obtain ⟨b, q', e1, e2, e3, e4, e5⟩ := hws j k v e
    have eT : Ts j = b := by
      show ps.getD j 0 = b
      rw [List.getD_eq_getElem?_getD, e1]
      rfl
    rw [eT]
    exact ⟨by simp [e1], .inl e4⟩
  refine PySem.call_dict_pairs (knd := mixKind X.prog X.w) (kvs := prs) (PairArg.tuple a (ps.map Value.ref).toArray Ts ws) (I.ok.hd hc) ok ⟨hwl.symm, fun i k v e => ?_⟩ (by rw [hwl, hl]; exact hz) fun h' tk hd' hk => ?_
  · obtain ⟨b, q', e1, e2, e3, e4, e5⟩ := hws i k v e
    exact ⟨q'.1, by rw [e2, e3], e5⟩
  · have hm : (st.heap.objs.size == sysModules) = false := beq_eq_false_iff_ne.mpr (Nat.ne_of_gt I.big)
    have hlen : (mergeK [] kvs).length ≤ sizeLine := Nat.le_trans (length_mergeK kvs []) (by rw [List.length_nil, Nat.zero_add, rel.length, hl]; exact hz)
    exact ⟨.ref st.heap.objs.size, upd H st.heap.objs.size (.dK (mergeK [] kvs)), I.laid (t' := tk) (fun b o z => hk b o (by simp) z) (Nat.le_refl _) (show ObjOk X.prog X.w _ _ _ (.dK (mergeK [] kvs)) from ⟨hlen, hm, merged [] prs, KV.merge rel .nil, hd'⟩), rfl, q _ (I.hok.fresh (Nat.le_refl _))⟩
end

section
variable {K : PySem.W.Frag} {σ : L2.St} {B H H' : Hp} {ta tb te tx tl : TE} {t u : TT} {d e z : PyData} {ds es : List PyData} {D : Ends} {tu tw tz : TS} {g : TG} {b : Bool} {v : V}
/-- for .. in a row that an expression gives -/
theorem sd_forN (x : Ex B H) (h : EvD K tl σ B (rows b ds))
    (k : ∀ v G H1, Gr B H G H1 → Dp K G v (rows b ds) → ∃ Pv : Nat → L2.St → Hp → Prop, Pv 0 σ H1 ∧ (∀ i σ' H', i ≤ ds.length → Pv i σ' H' → Ex G H') ∧
      (∀ i d y σ' H', ds[i]? = some d → Dp K G y d → Pv i σ' H' → g y σ' H' fun σ2 H2 => tu { D with nx := Pv (i + 1), ct := Pv (i + 1), bk := D.nx } σ2 H2) ∧ ∀ σ' H', Pv ds.length σ' H' → D.nx σ' H') : tFor (iRow K tl) g tu D σ H := by
  refine h H x _ fun v G H1 gg hd => ?_
  obtain ⟨Pv, h0, hG, hs, hn⟩ := k v G H1 gg hd
  obtain ⟨a, xs, rfl, hr, ha⟩ := row_of hd
  have hl := ha.length
  refine ⟨a, rfl, ?_⟩
  rcases hr with hr | hr
  · refine .inl ⟨⟨xs, ex_l gg.g2 hr⟩, for_list (xs := xs) Pv h0 (fun i σ' H' hi p => ex_l (hG i σ' H' (by omega) p) hr) (fun i y σ' H' hy p => ?_) (by rw [hl]; exact hn)⟩
    obtain ⟨d, h1, h2⟩ := ha.get hy
    exact hs i d y σ' H' h1 h2 p
  · refine .inr ⟨⟨xs, ex_t gg.g2 hr⟩, for_tup (xs := xs) Pv h0 (fun i σ' H' hi p => ex_t (hG i σ' H' (by omega) p) hr) (fun i y σ' H' hy p => ?_) (by rw [hl]; exact hn)⟩
    obtain ⟨d, h1, h2⟩ := ha.get hy
    exact hs i d y σ' H' h1 h2 p
theorem qd_forN (x : Ex B H) (h : EvD K tl σ B (rows b ds))
    (k : ∀ v G H1, Gr B H G H1 → Dp K G v (rows b ds) → ∃ Pv : Nat → L2.St → Hp → Prop, Pv 0 σ H1 ∧ (∀ i σ' H', i ≤ ds.length → Pv i σ' H' → Ex G H') ∧
      (∀ i d y σ' H', ds[i]? = some d → Dp K G y d → Pv i σ' H' → g y σ' H' fun σ2 H2 => tu { D with nx := Pv (i + 1), ct := Pv (i + 1), bk := tz D } σ2 H2) ∧ ∀ σ' H', Pv ds.length σ' H' → tz D σ' H') : tSeq (tFor (iRow K tl) g tu) tz D σ H := sd_forN (D := { D with nx := tz D }) x h k
/-- list(range(i, j)) -/
theorem dl_listRg {i j : Int} (ha : EvD K ta σ B (.int i)) (hb : EvD K tb σ B (.int j)) (h0 : 0 ≤ i) (h1 : j ≤ 16777216) (h2 : i ≤ 16777216) (h3 : 0 ≤ j) :
    EvDL K (tLstRg (tRg2 ta tb)) σ B ((List.range (j - i).toNat).map fun n => .int (i + (n : Nat))) := fun H1 x Q q =>
  ha H1 x _ fun v G2 H2 g2 hv => hb.mono g2.hg H2 g2.g2 _ fun w G3 H3 g3 hw => by
    rw [hv.int_of, hw.int_of]
    refine ⟨i, j, rfl, rfl, .of_le h0 h1 h2 h3, fun p hp => q p _ G3 _ (fresh_back g3.g2 hp) (fresh_back (g2.h12.trans g3.h12) hp) ((g2.trans g3).trans (Gr.mut g3.g2 hp)) upd_same ?_⟩
    have all : ∀ l : List Nat, DpAll K G3 (l.map fun n => V.int (i + (n : Nat))) (l.map fun n => PyData.int (i + (n : Nat))) := fun l => by
      induction l with
      | nil => exact .nil
      | cons a l ih => exact .cons (.int _) ih
    exact all _
/-- a list + a list, both new, or known -/
theorem dl_cat (ha : EvDL K ta σ B ds) (hb : EvDL K tb σ B es) (hl : ds.length + es.length ≤ 100000) : EvDL K (tOp rCat ta tb) σ B (ds ++ es) := fun H1 x Q q =>
  ha H1 x _ fun p xs G2 H2 g0 h0 g2 hp hxs => hb.mono g2.hg H2 g2.g2 _ fun p2 ys G3 H3 g30 h30 g3 hp2 hys => by
    have hp3 := g3.h12 _ _ hp
    refine ⟨p, p2, xs, ys, rfl, rfl, hp3, hp2, sz_of (by rw [hxs.length, hys.length]; exact hl), fun p3 hp3' => q p3 _ G3 _ (fresh_back g3.g2 hp3') (fresh_back (g2.h12.trans g3.h12) hp3') ((g2.trans g3).trans (Gr.mut g3.g2 hp3')) upd_same ((dpa_mono g3.hg hxs).append hys)⟩
/-- the first n of a list that is known -/
theorem dl_first {n : Nat} (ha : EvD K ta σ B (.list ds)) (hb : EvD K tb σ B (.int (n : Int))) : EvDL K (tSl (rSlL K) ta tNoPart (tPart tb)) σ B (ds.take n) := fun H1 x Q q =>
  ha H1 x _ fun v G2 H2 g2 hv => hb.mono g2.hg H2 g2.g2 _ fun w G3 H3 g3 hw => by
    obtain ⟨a, xs, rfl, hs, hds⟩ := Dp.lst_of hv
    rw [hw.int_of]
    have hs3 := ex_l g3.hg hs
    have hds3 := dpa_mono g3.hg hds
    have hcut : cutV xs none (some (n : Int)) = xs.take n := by
      unfold cutV
      rw [HT.sIx_none, HT.sIx_nat]
      show (xs.drop 0).take (min n xs.length - 0) = xs.take n
      rw [List.drop_zero, Nat.sub_zero]
      by_cases h : n ≤ xs.length
      · rw [show min n xs.length = n by omega]
      · rw [show min n xs.length = xs.length by omega, List.take_length, List.take_of_length_le (by omega)]
    refine ⟨n, rfl, a, xs, rfl, ex_l g3.g2 hs3, fun p hp => ?_⟩
    rw [hcut]
    exact q p _ G3 _ (fresh_back g3.g2 hp) (fresh_back (g2.h12.trans g3.h12) hp) ((g2.trans g3).trans (Gr.mut g3.g2 hp)) upd_same (hds3.take n)
end
end Tb
end

section
set_option Elab.async false
set_option linter.all false
set_option maxRecDepth 100000
set_option maxHeartbeats 1000000
/-! Toss base 9: tuples multiplied and added, extend by a tuple, the least of a list, in, while. -/
namespace Tb
open PySem PySem.Spec PyProof.Rows L2 Evl

/-- the machine's tuple * 1: the tuple itself -/
theorem tm_one (l : Addr) (items : Array Value) (n : Nat) (dd : Option Addr) (sl : Array (Option Value)) (x : Int) (u : Tok) (c0 : (decide (x < -(2 ^ 63)) || decide (x ≥ 2 ^ 63)) = false) (c1 : (items.isEmpty || x == 1) = true) :
    Meets (Builtin.«tuple.__mul__» ⟨[.ref l, .int x u], []⟩) (fun _ R s => s.heap.get? l = some { cls := .type "tuple", dict := dd, data := .seq items n, slots := sl } ∧ R (.ok (.ret (Value.ref l))) s) :=
  .of_wp fun prog w A R s h => by
    obtain ⟨hp, g, d, tk, os⟩ := s
    obtain ⟨hl, h⟩ := h
    have f1 := AutoSeq1.idx_int
    wp_walk using wpAny_loadPart' hl
    repeat (first
      | (refine wpAny_ite_false (decide_eq_false (by rw [c0]; exact Bool.false_ne_true)) ?_; wp_walk using wpAny_loadPart' hl)
      | (refine wpAny_ite_true (decide_eq_true c1) ?_; wp_walk using wpAny_loadPart' hl))
    exact ⟨_, rfl, h⟩
/-- the machine's tuple * 0: an empty tuple -/
theorem tm_none (l : Addr) (items : Array Value) (n : Nat) (dd : Option Addr) (sl : Array (Option Value)) (x : Int) (u : Tok) (c0 : (decide (x < -(2 ^ 63)) || decide (x ≥ 2 ^ 63)) = false) (c1 : (items.isEmpty || x == 1) = false) (c2 : (decide (x ≤ 0) || items.isEmpty) = true) :
    Meets (Builtin.«tuple.__mul__» ⟨[.ref l, .int x u], []⟩) (fun _ R s => s.heap.get? l = some { cls := .type "tuple", dict := dd, data := .seq items n, slots := sl } ∧
      R (.ok (.ret (Value.ref s.heap.objs.size))) { s with heap := s.heap.push { cls := Value.type "tuple", data := Data.seq #[] }, toks := s.toks }) :=
  .of_wp fun prog w A R s h => by
    obtain ⟨hp, g, d, tk, os⟩ := s
    obtain ⟨hl, h⟩ := h
    have f1 := AutoSeq1.idx_int
    wp_walk using wpAny_loadPart' hl
    repeat (first
      | (refine wpAny_ite_false (decide_eq_false (by rw [c0]; exact Bool.false_ne_true)) ?_; wp_walk using wpAny_loadPart' hl)
      | (refine wpAny_ite_false (decide_eq_false (by rw [c1]; exact Bool.false_ne_true)) ?_; wp_walk using wpAny_loadPart' hl)
      | (refine wpAny_ite_true (decide_eq_true c2) ?_; wp_walk using wpAny_loadPart' hl))
    exact ⟨_, rfl, h⟩
/-- tuple * int, of any number up to 1,000 -/
def rRepA (K : PySem.W.Frag) : R2 := fun x y H Q => ∃ l k xs, x = .ref l ∧ y = .int k ∧ SqT K H l xs ∧ xs ≠ [] ∧ 0 ≤ k ∧ k ≤ 1000 ∧ xs.length ≤ 1000 ∧ (k = 1 → Q (.ref l) H) ∧ (k ≠ 1 → ∀ p, H p = none → Q (.ref p) (upd H p (.tup (List.replicate k.toNat xs).flatten)))
section
variable {X : Cx}
theorem op_repA : OpR X (binaryOp .Mult) (rRepA X.K) := by
  intro pins s σ H x y v u Q I rx ry h
  obtain ⟨l, k, xs, rfl, rfl, hT, hne, h0, h1, hz, q1, q2⟩ := h
  by_cases hk2 : 2 ≤ k
  · exact op_repT pins s σ H _ _ v u Q I rx ry ⟨l, k, xs, rfl, rfl, hT, hne, hk2, h1, hz, q2 (by omega)⟩
  cases rx
  obtain ⟨t, rfl⟩ := ry
  obtain ⟨its, r, ⟨⟨cls, dd, data, sl⟩, ho, hc, n, hd⟩, hs⟩ := I.tuple hT
  simp only at hc hd
  subst hc hd
  have hle : its.length = xs.length := r.length.symm
  have hn : its ≠ [] := fun e => hne (by
    rw [e] at hle
    exact List.eq_nil_of_length_eq_zero hle.symm)
  have hi : its.toArray.isEmpty = false := by
    cases its with
    | nil => exact absurd rfl hn
    | cons a b => rfl
  have c0 : (decide (k < -(2 ^ 63)) || decide (k ≥ 2 ^ 63)) = false := by
    rw [decide_eq_false (by omega), decide_eq_false (by omega)] <;> rfl
  by_cases hk1 : k = 1
  · have c1 : (its.toArray.isEmpty || k == 1) = true := by
      rw [hi, Bool.false_or]
      exact beq_iff_eq.mpr hk1
    exact wpAny_binaryOp_repeat_ref (T := "tuple") (U := "int") (by decide) ⟨_, ho, rfl⟩ (fun s' => typeIs_int s' k t) noFill_tuple_mul F.fills_int_mul F.slot_int_rmul repeat_tuple F.slot_int_index.lookup
      (call_meets F.slot_int_rmul (typeIs_int s k t) F.entry_int_rmul (F.args_int_rmul_2 _ _) (int_rmul_tuple k t l its.toArray n dd sl)
        ⟨ho, rfl, ⟨_, ho, rfl⟩, call_meets F.slot_tuple_mul ⟨_, ho, rfl⟩ F.entry_tuple_mul (F.args_tuple_mul_2 _ _) (tm_one l its.toArray n dd sl k t c0 c1) ⟨ho, .ref l, H, I, rfl, q1 hk1⟩⟩)
  · have c1 : (its.toArray.isEmpty || k == 1) = false := by
      rw [hi, Bool.false_or]
      exact beq_eq_false_iff_ne.mpr hk1
    have k0 : k = 0 := by omega
    have c2 : (decide (k ≤ 0) || its.toArray.isEmpty) = true := by
      rw [decide_eq_true (by omega)]
      rfl
    refine wpAny_binaryOp_repeat_ref (T := "tuple") (U := "int") (by decide) ⟨_, ho, rfl⟩ (fun s' => typeIs_int s' k t) noFill_tuple_mul F.fills_int_mul F.slot_int_rmul repeat_tuple F.slot_int_index.lookup
      (call_meets F.slot_int_rmul (typeIs_int s k t) F.entry_int_rmul (F.args_int_rmul_2 _ _) (int_rmul_tuple k t l its.toArray n dd sl)
        ⟨ho, rfl, ⟨_, ho, rfl⟩, call_meets F.slot_tuple_mul ⟨_, ho, rfl⟩ F.entry_tuple_mul (F.args_tuple_mul_2 _ _) (tm_none l its.toArray n dd sl k t c0 c1 c2) ⟨ho, ?_⟩⟩)
    refine ⟨.ref s.heap.objs.size, _, I.laid (t' := s.toks) (o := .tup (List.replicate k.toNat xs).flatten) (fun b ob q => Heap.get?_push_of_some _ q) (Nat.le_refl _) ?_, rfl, q2 hk1 _ (I.hok.fresh (Nat.le_refl _))⟩
    subst k0
    exact ⟨Nat.zero_le _, [], .nil, IsTup.new _ _⟩
/-- the machine's list.extend by a tuple -/
theorem ext_tup (l : Addr) (items : Array Value) (n : Nat) (b : Addr) (items2 : Array Value) (n2 : Nat) (dd : Option Addr) (sl : Array (Option Value)) (hs0 : ¬(!items.isEmpty && Builtin.List.listTooLong (items.size + items2.size)) = true) (hs1 : items.size ≤ sizeLine) (hs2 : items.size + items2.size ≤ sizeLine + 1) :
    Meets (Builtin.«list.extend» ⟨[.ref l, .ref b], []⟩) (fun _ R s => s.heap.get? l = some { cls := .type "list", dict := none, data := .seq items n, slots := #[] } ∧ s.heap.get? b = some { cls := .type "tuple", dict := dd, data := .seq items2 n2, slots := sl } ∧ R (.ok (.ret Value.none)) { s with heap := s.heap.update l (Obj.mapSeq fun x => x ++ items2), toks := s.toks }) :=
  .of_wp fun prog w A R s h => by
    obtain ⟨hp, g, d, tk, os⟩ := s
    obtain ⟨hl, hb, h⟩ := h
    have f1 := AutoSeq1.idx_int
    have f2 := AutoSeq1.sub_tuple_tuple
    have f3 := AutoSeq1.sub_list_list
    have f4 := AutoSeq1.sub_tuple_list
    have f5 := AutoSeq1.sub_list_tuple
    have hz' : (items ++ items2).size ≤ sizeLine + 1 := by
      rw [Array.size_append]
      exact hs2
    wp_walk using (wpAny_updateSeq hl rfl (hz := hs1) (_hz' := hz')), wpAny_loadPart' hl, wpAny_loadPart' hb
    exact ⟨_, rfl, h⟩
def rExtA (K : PySem.W.Frag) : V → List V → Hp → VK → Prop := fun x vs H Q => ∃ l b xs zs, x = .ref l ∧ vs = [.ref b] ∧ H l = some (.lst xs) ∧ SqT K H b zs ∧ xs.length + zs.length ≤ sizeLine ∧ Q .non (upd H l (.lst (xs ++ zs)))
theorem mt_extA : MtM X "list.extend" (rExtA X.K) := by
  intro pins s σ H x vs v us Q I rx rv h
  obtain ⟨l, b, xs, zs, rfl, rfl, hH, hB, hz, q⟩ := h
  cases rx
  obtain ⟨u, rfl, ru⟩ := rv.one
  cases ru
  obtain ⟨z, its, n, r, hl, e⟩ := I.lstM hH
  obtain ⟨its2, r2, ⟨⟨cls, dd, data, sl⟩, ho, hc, n2, hd⟩, hs⟩ := I.tuple hB
  simp only at hc hd
  subst hc hd
  have hl2 := r2.length
  have hsz : its.toArray.size + its2.toArray.size ≤ sizeLine := by rw [List.size_toArray, List.size_toArray]; omega
  have hlong : ¬ (!its.toArray.isEmpty && Builtin.List.listTooLong (its.toArray.size + its2.toArray.size)) = true := by
    rw [notLongL hsz, Bool.and_false]
    exact Bool.false_ne_true
  refine call_meets F.slot_list_extend ⟨_, e, rfl⟩ F.entry_list_extend (F.args_list_extend_2 _ _)
    (ext_tup l its.toArray n b its2.toArray n2 dd sl hlong (by rw [List.size_toArray]; omega) (by omega)) ⟨e, ho, ?_⟩
  refine ⟨.non, _, I.lset (its' := its ++ its2) hH e (by simp) (r.append r2) ?_, rfl, q⟩
  rw [List.length_append]
  omega
/-- the least of a list of ints -/
def rMinL (K : PySem.W.Frag) : List V → Hp → VK → Prop := fun xs H Q => ∃ (a : Addr) (n : Int) (ns : List Int), xs = [.ref a] ∧ SqL K H a ((n :: ns).map V.int) ∧ Q (.int (ns.foldl min n)) H
theorem call_minLI (hc : X.calm = true) (hu : X.A.units + 64 < cLine) : CallR X (.builtin "min") (rMinL X.K) := by
  intro pns st σ H xs us Q I r h
  obtain ⟨a, n, ns, rfl, hs, q⟩ := h
  obtain ⟨u, rfl, ru⟩ := vals1 r
  cases ru
  obtain ⟨its, rv, pl, _⟩ := I.list hs
  obtain ⟨as, hr⟩ := Dp.readsAll I ((n :: ns).map .int) _ its (DpAll.of_ints (n :: ns)) rv
  have hd := depth_ints (n :: ns)
  rw [List.map_cons] at hr hd
  refine PySem.W.min_list_data (I.ok.hd hc) pl.isList (by simpa using hr) (alike_ints (n :: ns)) (by omega) fun i v h' tk bs hv hr' hk => ?_
  rw [PySem.W.minD_ints] at hr'
  cases hr' with
  | int _ t => exact ⟨.int _, H, I.kept hk, ⟨_, rfl⟩, q⟩
end
section
variable {K : PySem.W.Frag} {σ : L2.St} {B H : Hp} {d e z : PyData} {ds es : List PyData} {D : Ends} {tu tz : TS} {t : TT} {te : TE} {b : Bool}
theorem dpa_rep {xs : List V} (n : Nat) (h : DpAll K H xs ds) : DpAll K H (List.replicate n xs).flatten (List.replicate n ds).flatten := by
  induction n with
  | zero => exact .nil
  | succ n ih =>
    rw [List.replicate_succ, List.replicate_succ, List.flatten_cons, List.flatten_cons]
    exact h.append ih
theorem rd_repA {k : Int} (hne : ds ≠ []) (h0 : 0 ≤ k) (h1 : k ≤ 1000) (hl : ds.length ≤ 1000) : RD K (rRepA K) (.tuple ds) (.int k) H (.tuple (List.replicate k.toNat ds).flatten) := fun x y H1 ex hx hy Q q => by
  obtain ⟨a, xs, rfl, hs, hd⟩ := Dp.tup_of hx
  have hlen := hd.length
  refine ⟨a, k, xs, rfl, hy.int_of, ex_t ex hs, fun z => ?_, h0, h1, by omega, fun e => ?_, fun _ p hp => ?_⟩
  · rw [z] at hlen
    exact hne (List.eq_nil_of_length_eq_zero hlen.symm)
  · subst e
    refine q _ H H1 (.refl ex) ?_
    show Dp K H (.ref a) (.tuple (ds ++ []))
    rw [List.append_nil]
    exact .tup hs hd
  · exact q _ _ _ (Gr.new ex hp) (.tup (st_of upd_same) (dpa_mono (Ex.new (fresh_back ex hp)) (dpa_rep _ hd)))
theorem rd_catA (hl : ds.length + es.length ≤ 100000) : RD K (rCatA K) (.tuple ds) (.tuple es) H (.tuple (ds ++ es)) := fun x y H1 ex hx hy Q q => by
  obtain ⟨a, xs, rfl, hs, hd⟩ := Dp.tup_of hx
  obtain ⟨b, ys, rfl, hs2, hd2⟩ := Dp.tup_of hy
  have e1 := hd.length
  have e2 := hd2.length
  refine ⟨a, b, xs, ys, rfl, rfl, ex_t ex hs, ex_t ex hs2, sz_of (by omega), fun z => ?_, fun _ z => ?_, fun _ _ p hp => ?_⟩
  · subst z
    cases hd
    exact q _ H H1 (.refl ex) hy
  · subst z
    cases hd2
    rw [List.append_nil] at q
    exact q _ H H1 (.refl ex) hx
  · exact q _ _ _ (Gr.new ex hp) (.tup (st_of upd_same) (dpa_mono (Ex.new (fresh_back ex hp)) (hd.append hd2)))
theorem rcd_minL {n : Int} {ns : List Int} : RCD K (rMinL K) [.list ((n :: ns).map .int)] H (.int (ns.foldl min n)) := fun vs H1 x hd Q q => by
  cases hd with
  | cons h h0 =>
    cases h0
    obtain ⟨a, xs, rfl, hs, hds⟩ := Dp.lst_of h
    have e := DpAll.ints (ns := n :: ns) hds
    subst e
    exact ⟨a, n, ns, rfl, ex_l x hs, q _ H H1 (.refl x) (.int _)⟩
theorem rd_inI {i : Int} {ns : List Int} {neg : Bool} : RD K (rIn K neg) (.int i) (rows b (ns.map .int)) H (.bool (if neg then !(ns.any (· == i)) else ns.any (· == i))) := fun x y H1 ex hx hy Q q => by
  obtain ⟨a, xs, rfl, hr, hd⟩ := row_of hy
  have e := hd.ints
  subst e
  rw [hx.int_of]
  refine ⟨a, _, rfl, row_mono ex hr, rfl, by simp [flatV], ?_⟩
  have e2 : inV (.int i) (ns.map V.int) = ns.any (· == i) := by
    unfold inV
    rw [List.any_map]
    rfl
  rw [e2]
  exact q _ H H1 (.refl ex) (.bl _)
theorem dpa_strs : ∀ {vs : List V} {zs : List Str}, DpAll K H vs (zs.map .str) → vs = zs.map V.str
  | _, [], .nil => rfl
  | _, z :: zs, .cons r a => by
    rw [Dp.str_of r, dpa_strs a]
    rfl
theorem rd_inZ {i : Str} {zs : List Str} {neg : Bool} : RD K (rIn K neg) (.str i) (rows b (zs.map .str)) H (.bool (if neg then !(zs.any (· == i)) else zs.any (· == i))) := fun x y H1 ex hx hy Q q => by
  obtain ⟨a, xs, rfl, hr, hd⟩ := row_of hy
  have e := dpa_strs hd
  subst e
  rw [hx.str_of]
  refine ⟨a, _, rfl, row_mono ex hr, rfl, by simp [flatV], ?_⟩
  have e2 : inV (.str i) (zs.map V.str) = zs.any (· == i) := by
    unfold inV
    rw [List.any_map]
    rfl
  rw [e2]
  exact q _ H H1 (.refl ex) (.bl _)
/-- name.extend(a tuple) -/
theorem qd_extA {j : Nat} {l : Addr} {xs : List V} (x : Ex B H) (hl : H l = some (.lst xs)) (h0 : B l = none) (hj : σ[j]? = some (some (.ref l))) (h : EvD K te σ B (.tuple ds)) (hz : xs.length + ds.length ≤ 100000)
    (k : ∀ zs G H2, Gr B H G H2 → G l = none → H2 l = some (.lst xs) → DpAll K G zs ds → tz D σ (upd H2 l (.lst (xs ++ zs)))) : tSeq (tDrop (tBM K "list" (rExtA K) (tVar j) (tCons te tNil))) tz D σ H :=
  ⟨_, hj, .inl ⟨rfl, xs, sq_of hl⟩, h H x _ fun w G H2 g hw => by
    obtain ⟨b, zs, rfl, hs, hd⟩ := Dp.tup_of hw
    have h2 : H2 l = some (.lst xs) := g.h12 _ _ hl
    exact ⟨l, b, xs, zs, rfl, rfl, h2, ex_t g.g2 hs, sz_of (by have := hd.length; omega), k zs G H2 g (g.sep l h0 (by rw [hl]; exact fun z => nomatch z)) h2 hd⟩⟩
/-- while: W m is the word, m a number that falls -/
theorem sd_while (W : Nat → L2.St → Hp → Prop) (m0 : Nat) (h0 : W m0 σ H)
    (hs : ∀ m σ' H', W m σ' H' → ∃ (b : Bool) (G : Hp), Ex G H' ∧ EvT t σ' G b ∧ (b = true → ∀ H1, Ex H' H1 → ∃ N : L2.St → Hp → Prop, (∀ σ2 H2, N σ2 H2 → ∃ m', m' < m ∧ W m' σ2 H2) ∧ tu { D with nx := N, ct := N, bk := D.nx } σ' H1) ∧ (b = false → ∀ H1, Ex H' H1 → D.nx σ' H1)) : tWhile t tu D σ H :=
  ⟨W, ⟨m0, h0⟩, fun m σ' H' hw => by
    obtain ⟨b, G, x, hb, h1, h2⟩ := hs m σ' H' hw
    refine hb H' x _ fun H1 e => ?_
    cases b with
    | true => exact h1 rfl H1 e
    | false => exact h2 rfl H1 e⟩
theorem qd_while (W : Nat → L2.St → Hp → Prop) (m0 : Nat) (h0 : W m0 σ H)
    (hs : ∀ m σ' H', W m σ' H' → ∃ (b : Bool) (G : Hp), Ex G H' ∧ EvT t σ' G b ∧ (b = true → ∀ H1, Ex H' H1 → ∃ N : L2.St → Hp → Prop, (∀ σ2 H2, N σ2 H2 → ∃ m', m' < m ∧ W m' σ2 H2) ∧ tu { D with nx := N, ct := N, bk := tz D } σ' H1) ∧ (b = false → ∀ H1, Ex H' H1 → tz D σ' H1)) : tSeq (tWhile t tu) tz D σ H := sd_while (D := { D with nx := tz D }) W m0 h0 hs
end
end Tb
end

section
set_option Elab.async false
set_option linter.all false
set_option maxRecDepth 100000
set_option maxHeartbeats 400000
/-! Toss base 10: defs that raise; own exceptions with one field. -/
namespace Tb
open PySem PySem.Spec PyProof.Rows L2 Evl

/-- as has_mk, for a def that may raise -/
theorem has_mkX {P : Program} {w : World} {K : PySem.W.Frag} {mg : Str → Option Value} {base : Heap} {x qual : Str} {st : Stmt} {f : Addr} {fd : FuncData} {k : Nat} {N ps : List Str} {sp : Sp}
    (F : FunD K x qual (defArgs st) (defBody st) (defScope st) [] [] f fd) (hm : mg x = some (.ref f)) (S : FnScope N ps (defScope st)) (len : ∀ vs H Q E, sp vs H Q E → vs.length = ps.length)
    (h : ∀ (kV doc pm : Value) (an : Option Addr) (cdv ct : Value) (us : List Value), us.length = ps.length → bindArgs (PySem.W.fnOf x qual (defArgs st) (defBody st) (defScope st) .none kV doc pm an cdv ct) ⟨us, []⟩ = pure (ps.zip us))
    (body : ∀ (cdv : Value) (A : Around) (outer : List Env) (s : Shared) (H : Hp) (vs : List V) (Q : VK) (E : XK), Room k (A.deeper (envOfC qual (defScope st) s.heap.objs.size f cdv)) → sp vs H Q E →
      ∃ t, PSs (cxOf (L2.CX P w) P w K mg base N qual (defScope st) f cdv A outer s H E) (defBody st) t ∧ t { nx := fun _ H' => Q .non H', rt := Q } (start N vs) H) :
    Has P w K mg base (L2.CX P w) x (k + 1) ps [] sp := has_of F hm (F.ok S len body) h
/-- C.__init__(self, x): self.f = x -/
def spInit1 (K : PySem.W.Frag) (f : Str) : Sp := fun vs H Q _ => ∃ (a C : Addr) (y : V), vs = [.ref a, y] ∧ OexC K C ∧ PySem.W.findIn K (.ref C) f = some none ∧ H a = some (exo a C none) ∧ ∀ dx, H dx = none → dx ≠ a → Q .non (upd (upd H dx (exd dx [(f, y)])) a (exo a C (some dx)))
/-- C(e): the exception's dict, new, beside all that stood -/
theorem mk_one {K : PySem.W.Frag} {C : Addr} {f : Str} {σ : L2.St} {B H : Hp} {te : TE} {k : Int} {Q : XK} (T : OexC K C) (hno : PySem.W.findIn K (.ref C) f = some none) (x : Ex B H) (h : EvD K te σ B (.int k))
    (q : ∀ d H', Ex H H' → H d = none → H' d = some (.xd [(f, .int k)]) → Q (.ref C) (some d) H') : tMkO C (spInit1 K f) [] (tCons te tNil) σ H Q := by
  refine h H x _ fun v G H1 g hv => ⟨by show 1 ≤ 1000; decide, fun a ha => ⟨a, C, v, rfl, T, hno, upd_same, fun dx hdx ne => ?_⟩⟩
  have dn : H1 dx = none := by rw [upd_ne ne] at hdx; exact hdx
  refine ⟨rfl, dx, [(f, v)], upd_same, ?_, dn, ?_⟩
  · rw [upd_ne ne, upd_same]
  · rw [hv.int_of]
    refine q dx _ (g.h12.trans fun b o hb => ?_) (fresh_back g.h12 dn) upd_same
    have b1 : b ≠ dx := ne_of_none hb dn
    have b2 : b ≠ a := ne_of_none hb ha
    rw [upd_ne b1, del_ne b2, upd_ne b2, upd_ne b1, upd_ne b2]
    exact hb
end Tb
end

section
set_option Elab.async false
set_option linter.all false
set_option maxRecDepth 100000
set_option maxHeartbeats 4000000
/-! Toss base 12: several except clauses, each with a name. -/
namespace L2
open PySem PySem.Spec PyProof.Rows
/-- what named clauses wish of an exception: class, slot, suite of each, one after the other -/
def wNam (K : PySem.W.Frag) (Wout : WX) (D : Ends) : List (Value × Nat × (Addr → Value → Option Addr → TS)) → WX
  | [] => Wout
  | z :: r => wAs K z.1 z.2.1 z.2.2 (wNam K Wout D r) D
inductive NamOk (X : Cx) : List ExceptHandler → List (Value × Nat × (Addr → Value → Option Addr → TS)) → Prop
  | nil : NamOk X [] []
  | cons {x n : Str} {c : Value} {i : Nat} {ts : Addr → Value → Option Addr → TS} {b₀ : Stmt} {suite : List Stmt} {np pos' : Pos} {hds : List ExceptHandler} {l : List (Value × Nat × (Addr → Value → Option Addr → TS))}
      (hi : X.N[i]? = some n) (hln : X.env.kindOf n = some .local) (hc : Names X x c)
      (hsu : ∀ (a : Addr) (oe : Obj) (cls : Value) (d : Option Addr) (pn : List (Addr × Obj)), Zc cls d oe → (∃ vs, oe.data = .fields vs) → PSs (X.suite a ((a, oe) :: pn)) (b₀ :: suite) (ts a cls d)) (r : NamOk X hds l) :
      NamOk X (.ExceptHandler (some (.Name x np)) (some n) (b₀ :: suite) pos' :: hds) ((c, i, ts) :: l)
section
variable {X : Cx} {body : List Stmt} {h₀ : ExceptHandler} {hds : List ExceptHandler} {l : List (Value × Nat × (Addr → Value → Option Addr → TS))} {pos : Pos} {tb : WX → TS} {Wout : WX}
theorem ps_try_named (hs : X.stack = X.env :: X.outer) (hf : X.env.frame = some X.env.locals) (hN : X.N.Nodup) (tk : Takes X Wout)
    (inner : ∀ (V : WX) (ps : List (Addr × Obj)) (out : Value → Shared → Prop), Takes (X.tr ps out) V → PassesOwn (model X.prog X.w) X.A X.env out → PSs (X.tr ps out) body (tb V))
    (hh : NamOk X (h₀ :: hds) l) : PS X (.Try body (h₀ :: hds) [] [] pos) (fun D σ H => tb (wNam X.K Wout D l) D σ H) := by
  refine ⟨fun pk0 s σ H D I given => ?_⟩
  have ok := I.ok
  have frames : X.A.frames = some (X.env :: X.outer) := by
    rw [ok.frames]
    rw [hs]
  let caught : Value → Shared → Prop := fun e s₁ => wpAny (model X.prog X.w) X.A (noteFrame e X.env) (fun _ s₂ => wpAny (model X.prog X.w) X.A (setFlight e none) (fun _ s₃ => wpAny (model X.prog X.w) X.A (handleBy e X.env (h₀ :: hds)) (SP X pk0 D) X.xe s₃) X.xe s₂) X.xe s₁
  have calm : ∀ f s1, SP (X.tr (X.pn ++ pk0) caught) [] D f s1 → (match f with
      | .next => wpAny (model X.prog X.w) X.A (execs [] X.env) (SP X pk0 D) X.xe s1
      | f => SP X pk0 D f s1) := fun f s1 z => by
    cases f with
    | next =>
      obtain ⟨τ, L, Jt, q⟩ := z
      exact wpAny_execs_nil ⟨τ, L, Jt.ofTry ok, q⟩
    | brk =>
      obtain ⟨τ, L, Jt, q⟩ := z
      exact ⟨τ, L, Jt.ofTry ok, q⟩
    | cont =>
      obtain ⟨τ, L, Jt, q⟩ := z
      exact ⟨τ, L, Jt.ofTry ok, q⟩
    | ret u =>
      obtain ⟨v, τ, L, Jt, r, q⟩ := z
      exact ⟨v, τ, L, Jt.ofTry ok, r, q⟩
  refine wpAny_Try_except (wpAny_mono ((inner (wNam X.K Wout D l) (X.pn ++ pk0) caught (fun u s' xx => ?_) PassesOwn.looking).run [] s σ H D (I.toTry _) given) (fun f s1 z => ?_) fun _ _ he => he)
  · obtain ⟨a, B, sI, pk, τ, L, cls, d, rfl, Jt, nb, up, sky, na, os, ag, want⟩ := xx
    have J : Inv X pk0 τ L sI := Jt.ofTry ok
    refine Sky.land Zc.steady frames hf (by rw [← hs]; exact sky) fun h3 fl u3 => ?_
    obtain ⟨oe, _, he, hz, hd⟩ := fl.there
    have away : a ∉ frs (X.env :: X.outer) := fun hm => by
      obtain ⟨_, o', e', hnf⟩ := fl.2.2.1.mem hm
      rw [he] at e'
      cases e'
      exact hnf _ hd
    have offL : a ≠ X.env.locals := fun z => away (List.mem_filterMap.mpr ⟨X.env, List.mem_cons_self, by rw [hf, z]⟩)
    have offF : a ∉ X.fs := fun hm => by
      obtain ⟨e, h1, h2⟩ := List.mem_filterMap.mp hm
      exact away (List.mem_filterMap.mpr ⟨e, List.mem_cons_of_mem _ h1, h2⟩)
    have Jland : Inv X pk0 τ L { s' with heap := h3 } := J.landed nb fl.1 (up.trans u3) os ag
    have Sland := Jland.suite he hd na offL offF
    suffices go : ∀ {hds' : List ExceptHandler} {l' : List (Value × Nat × (Addr → Value → Option Addr → TS))}, NamOk X hds' l' → wNam X.K Wout D l' cls d τ L →
        wpAny (model X.prog X.w) X.A (handleBy (.ref a) X.env hds') (SP X pk0 D) X.xe { s' with heap := h3 } from go hh want
    intro hds' l' hk
    induction hk with
    | nil =>
      intro want
      refine wpAny_handleBy_nil ?_
      obtain ⟨_, _, _, oe, vs, T, oT, tail_, he, hz, hd, h1, hr⟩ := id fl
      unfold PySem.passOn
      apply wpAny_bind
      refine wpAny_field he hd h1 ?_
      have notNone : ¬ (Value.ref T == Value.none) = true := by simp
      rw [if_neg notNone]
      have rest : wpAny (model X.prog X.w) X.A (setFlight (.ref a) X.env.frame) (fun _ s4 => wpAny (model X.prog X.w) X.A (throw (.ref a) : Sem Flow) (SP X pk0 D) X.xe s4) X.xe { s' with heap := h3 } := by
        rw [hf]
        exact HandSPX.setFlight_upZ fl fun hp4 hh4 u4 => wpAny_throw (tk _ _ ⟨a, B, sI, pk0, τ, L, cls, d, rfl, J, nb, (up.trans u3).trans u4, .inr (.inr (by rw [hs]; exact hh4)), na, os, ag, want⟩)
      first
        | exact wpAny_bind (wpAny_pure (wpAny_bind (rest)))
        | exact wpAny_bind rest
    | @cons x n c i ts b₀ suite np pos' hds2 l2 hi hln hc hsu r ih =>
      intro want
      obtain ⟨b, hb1, hyes, hno⟩ := want
      have known : PySem.W.Looks (model X.prog X.w) h3 (typeOf (.ref a)) cls := fun A Q E s k q => wpAny_typeOf_ref (k _ _ he) (by rw [hz.1]; exact q)
      have ask := PySem.W.exm_one (M := model X.prog X.w) Jland.kIn known hb1
      refine wpAny_handleBy_cons (codeAny_handlers_test ?_) (fun q => by cases q)
      have named : ∀ {Q E : Value → Shared → Prop}, Q c { s' with heap := h3 } → wpAny (model X.prog X.w) (X.A.mark (some (.ref a))) (eval (.Name x np) X.env) Q E { s' with heap := h3 } := fun {Q E} q => by
        obtain ⟨isg, dbg, hm | ⟨hm, hv, nnm⟩⟩ := hc
        · exact ld_glob (X := X.suite a ((a, oe) :: (X.pn ++ pk0))) Sland isg hm q dbg
        · exact ld_blt (X := X.suite a ((a, oe) :: (X.pn ++ pk0))) Sland isg hm hv q nnm dbg
      refine named (ask.here ?_)
      cases b with
      | false => exact ih (hno rfl)
      | true =>
        refine codeAny_handlers_suite_as (HandSPX.lands_againZ fl fun hp4 fly4 u4 => ?_)
        obtain ⟨o4, w4, at4, zc4, dat4⟩ := fly4.there
        have Jsuite : Inv X pk0 τ L { s' with heap := hp4 } := J.landed nb fly4.1 ((up.trans u3).trans u4) os ag
        have Ssuite := Jsuite.suite at4 dat4 na offL offF
        refine store_ok (X := X.suite a ((a, o4) :: (X.pn ++ pk0))) (v := .ref a) Ssuite hN hi (.inl hln) rfl (fun s5 S5 => ?_) (.inr hln)
        refine wpAny_mono ((hsu a o4 cls d (X.pn ++ pk0) zc4 ⟨_, dat4⟩).run [] s5 _ L _ S5 (hyes rfl a na)) (fun f s6 z => ?_) fun _ _ z => False.elim z
        have off : ∀ {σ6 : St} {H6 : Hp} {Q : Shared → Prop}, Inv (X.suite a ((a, o4) :: (X.pn ++ pk0))) [] σ6 H6 s6 → (∀ s7, Inv X pk0 (σ6.set i none) H6 s7 → Q s7) →
            wpAny (model X.prog X.w) X.A (do bindName X.env n .none; unbindBehindTheSuite X.env n pos') (fun _ s7 => Q s7) X.xe s6 := fun S6 hq => gone_ok (S6.unsuite ok) hN hi hln hq
        cases f with
        | next =>
          obtain ⟨_, _, S6, q6⟩ := z
          exact off S6 fun s7 Jz => ⟨_, _, Jz, q6⟩
        | brk =>
          obtain ⟨_, _, S6, q6⟩ := z
          exact off S6 fun s7 Jz => ⟨_, _, Jz, q6⟩
        | cont =>
          obtain ⟨_, _, S6, q6⟩ := z
          exact off S6 fun s7 Jz => ⟨_, _, Jz, q6⟩
        | ret u =>
          obtain ⟨_, _, _, S6, r6, q6⟩ := z
          exact off S6 fun s7 Jz => ⟨_, _, _, Jz, r6, q6⟩
  · have := calm f s1 z
    cases f <;> exact this
end
end L2
end

section
set_option Elab.async false
set_option linter.all false
set_option maxRecDepth 100000
set_option maxHeartbeats 1000000
/-! k04, the program's checks and limits. -/
namespace Tk
open PySem PySem.Spec PyProof.Rows L2 Evl Tb
def topS (i : Nat) : Stmt := PySem.Challenge.pw_tosslanes_k04_whole_coins_and_heights.main.body.getD i (.Pass ⟨0, 0, 0, 0⟩)
def NoY (CX : CXT) : Prop := ∀ X : Cx, Passes CX X E0
theorem noY0 : NoY CX0 := fun _ => pass0
theorem noYX {P : Program} {w : World} : NoY (L2.CX P w) := fun _ _ _ _ _ _ _ _ h => by
  obtain ⟨_, _, _, _, _, _, _, _, _, _, _, _, z⟩ := h
  exact z.elim
abbrev s_is_whole : Stmt := topS 9
abbrev n_is_whole : List Str := ["thing"]
theorem sc_is_whole : FnScope n_is_whole ["thing"] (defScope s_is_whole) := ⟨rfl, rfl, rfl, by decide +kernel, rfl, by decide +kernel, by decide +kernel⟩

abbrev s_is_row : Stmt := topS 10
abbrev n_is_row : List Str := ["thing"]
theorem sc_is_row : FnScope n_is_row ["thing"] (defScope s_is_row) := ⟨rfl, rfl, rfl, by decide +kernel, rfl, by decide +kernel, by decide +kernel⟩

abbrev s_first_wrong : Stmt := topS 11
abbrev n_first_wrong : List Str := ["thing", "is_right", "index", "element"]
theorem sc_first_wrong : FnScope n_first_wrong ["thing", "is_right"] (defScope s_first_wrong) := ⟨rfl, rfl, rfl, by decide +kernel, rfl, by decide +kernel, by decide +kernel⟩

abbrev s_check_number : Stmt := topS 12
abbrev n_check_number : List Str := ["value", "least", "greatest"]
theorem sc_check_number : FnScope n_check_number ["value", "least", "greatest"] (defScope s_check_number) := ⟨rfl, rfl, rfl, by decide +kernel, rfl, by decide +kernel, by decide +kernel⟩

abbrev s_is_coin : Stmt := topS 20
abbrev n_is_coin : List Str := ["thing"]
theorem sc_is_coin : FnScope n_is_coin ["thing"] (defScope s_is_coin) := ⟨rfl, rfl, rfl, by decide +kernel, rfl, by decide +kernel, by decide +kernel⟩

abbrev s_is_height : Stmt := topS 28
abbrev n_is_height : List Str := ["thing"]
theorem sc_is_height : FnScope n_is_height ["thing"] (defScope s_is_height) := ⟨rfl, rfl, rfl, by decide +kernel, rfl, by decide +kernel, by decide +kernel⟩

abbrev s_is_rule : Stmt := topS 21
abbrev n_is_rule : List Str := ["thing", "word", "limit"]
theorem sc_is_rule : FnScope n_is_rule ["thing"] (defScope s_is_rule) := ⟨rfl, rfl, rfl, by decide +kernel, rfl, by decide +kernel, by decide +kernel⟩

abbrev s_check_rule : Stmt := topS 24
abbrev n_check_rule : List Str := ["rule"]
theorem sc_check_rule : FnScope n_check_rule ["rule"] (defScope s_check_rule) := ⟨rfl, rfl, rfl, by decide +kernel, rfl, by decide +kernel, by decide +kernel⟩

abbrev s_limit_of : Stmt := topS 25
abbrev n_limit_of : List Str := ["rule", "top"]
theorem sc_limit_of : FnScope n_limit_of ["rule", "top"] (defScope s_limit_of) := ⟨rfl, rfl, rfl, by decide +kernel, rfl, by decide +kernel, by decide +kernel⟩

abbrev s_most : Stmt := topS 15
abbrev n_most : List Str := ["rule", "top"]
theorem sc_most : FnScope n_most ["rule", "top"] (defScope s_most) := ⟨rfl, rfl, rfl, by decide +kernel, rfl, by decide +kernel, by decide +kernel⟩

abbrev s_coins_within : Stmt := topS 27
abbrev n_coins_within : List Str := ["height", "limit", "grows"]
theorem sc_coins_within : FnScope n_coins_within ["height", "limit"] (defScope s_coins_within) := ⟨rfl, rfl, rfl, by decide +kernel, rfl, by decide +kernel, by decide +kernel⟩

abbrev s_coins_for : Stmt := topS 17
abbrev n_coins_for : List Str := ["height", "rule", "top"]
theorem sc_coins_for : FnScope n_coins_for ["height", "rule", "top"] (defScope s_coins_for) := ⟨rfl, rfl, rfl, by decide +kernel, rfl, by decide +kernel, by decide +kernel⟩

abbrev s_check_coins : Stmt := topS 22
abbrev n_check_coins : List Str := ["coins", "index"]
theorem sc_check_coins : FnScope n_check_coins ["coins"] (defScope s_check_coins) := ⟨rfl, rfl, rfl, by decide +kernel, rfl, by decide +kernel, by decide +kernel⟩

abbrev s_check_heights : Stmt := topS 23
abbrev n_check_heights : List Str := ["heights", "index"]
theorem sc_check_heights : FnScope n_check_heights ["heights"] (defScope s_check_heights) := ⟨rfl, rfl, rfl, by decide +kernel, rfl, by decide +kernel, by decide +kernel⟩

abbrev s_coins_of : Stmt := topS 18
abbrev n_coins_of : List Str := ["heights", "rule", "told", "top", "height", "coins"]
theorem sc_coins_of : FnScope n_coins_of ["heights", "rule"] (defScope s_coins_of) := ⟨rfl, rfl, rfl, by decide +kernel, rfl, by decide +kernel, by decide +kernel⟩

/-! ### what they tell -/
def wholeD : PyData → Bool
  | .int _ => true
  | _ => false
def rowD : PyData → Bool
  | .list _ => true
  | .tuple _ => true
  | _ => false
theorem rowD_rows (b : Bool) (ds : List PyData) : rowD (rows b ds) = true := by cases b <;> rfl
def optD : Option Int → PyData
  | none => .none
  | some k => .int k
inductive Ru where
  | free | step | cap (n : Int) | stepc (n : Int)
def ruL : Ru → List PyData
  | .free => [.str "free"]
  | .step => [.str "step"]
  | .cap n => [.str "cap", .int n]
  | .stepc n => [.str "step", .int n]
def ruD (b : Bool) (r : Ru) : PyData := rows b (ruL r)
def okR : Ru → Prop
  | .cap n => 1 ≤ n ∧ n ≤ 64
  | .stepc n => 1 ≤ n ∧ n ≤ 64
  | _ => True
def limR : Ru → Int → Option Int
  | .free, _ => none
  | .cap n, _ => some n
  | .step, t => some (t + 1)
  | .stepc n, t => some (min (t + 1) n)
/-- the coins of a height -/
def cwL (h : Int) : Option Int → Option (List Int)
  | none => some (List.replicate (h - 1).toNat 1 ++ [0])
  | some l => if l < h then none else some (List.replicate (h - 1).toNat 1 ++ (if h = l then [] else [0]))
def optT : Option (List Int) → PyData
  | none => .none
  | some ns => .tuple (ns.map .int)
/-- the coins of heights, by the top so far -/
def dueF (r : Ru) : Int → List Int → Option (List Int)
  | _, [] => some []
  | t, h :: hs => match cwL h (limR r t) with
    | none => none
    | some c => match dueF r (max t h) hs with
      | none => none
      | some cs => some (c ++ cs)
def R_is_whole (ds : List PyData) (z : PyData) : Prop := ∃ d, ds = [d] ∧ z = .bool (wholeD d)
def R_is_row (ds : List PyData) (z : PyData) : Prop := ∃ d, ds = [d] ∧ z = .bool (rowD d)
def R_check_number (ds : List PyData) (z : PyData) : Prop := ∃ v l g, ds = [.int v, .int l, optD g] ∧ l ≤ v ∧ (∀ x, g = some x → v ≤ x) ∧ z = .none
def R_is_coin (ds : List PyData) (z : PyData) : Prop := ∃ c : Int, ds = [.int c] ∧ (c = 0 ∨ c = 1) ∧ z = .bool true
def R_is_height (ds : List PyData) (z : PyData) : Prop := ∃ h : Int, ds = [.int h] ∧ 1 ≤ h ∧ z = .bool true
def R_is_rule (ds : List PyData) (z : PyData) : Prop := ∃ b r, ds = [ruD b r] ∧ okR r ∧ z = .bool true
def R_check_rule (ds : List PyData) (z : PyData) : Prop := ∃ b r, ds = [ruD b r] ∧ okR r ∧ z = .none
def R_limit_of (ds : List PyData) (z : PyData) : Prop := ∃ b r t, ds = [ruD b r, .int t] ∧ okR r ∧ z = optD (limR r t)
def R_most (ds : List PyData) (z : PyData) : Prop := ∃ b r t, ds = [ruD b r, .int t] ∧ okR r ∧ 0 ≤ t ∧ z = optD (limR r t)
def R_coins_within (ds : List PyData) (z : PyData) : Prop := ∃ h g, ds = [.int h, optD g] ∧ 1 ≤ h ∧ h ≤ 1000 ∧ z = optT (cwL h g)
def R_coins_for (ds : List PyData) (z : PyData) : Prop := ∃ h b r t, ds = [.int h, ruD b r, .int t] ∧ 1 ≤ h ∧ h ≤ 1000 ∧ okR r ∧ 0 ≤ t ∧ z = optT (cwL h (limR r t))
def R_check_coins (ds : List PyData) (z : PyData) : Prop := ∃ (b : Bool) (ns : List Int), ds = [rows b (ns.map .int)] ∧ (∀ c ∈ ns, c = 0 ∨ c = 1) ∧ z = .none
def R_check_heights (ds : List PyData) (z : PyData) : Prop := ∃ (b : Bool) (ns : List Int), ds = [rows b (ns.map .int)] ∧ (∀ c ∈ ns, 1 ≤ c) ∧ z = .none
def R_coins_of (ds : List PyData) (z : PyData) : Prop := ∃ (b : Bool) (ns : List Int) (b2 : Bool) (r : Ru), ds = [rows b (ns.map .int), ruD b2 r] ∧ (∀ c ∈ ns, 1 ≤ c ∧ c ≤ 100) ∧ okR r ∧ ns.length ≤ 1000 ∧ z = optT (dueF r 0 ns)
/-- a def as an argument: S tells what it promises -/
def spFW (K : PySem.W.Frag) (S : Addr → Option Sp) : Sp := fun vs H Q _ => ∃ (B : Hp) (v1 : V) (f : Addr) (b : Bool) (ds : List PyData) (R : List PyData → PyData → Prop), vs = [v1, .ref f] ∧ Ex B H ∧ Dp K B v1 (rows b ds) ∧ S f = some (spP K 1 R) ∧ (∀ d ∈ ds, R [d] (.bool true)) ∧ ∀ H', Ex H H' → Q .non H'
section
variable {K : PySem.W.Frag} {σ : L2.St} {B : Hp} {te tf tg ta tb tc : TE} {d : PyData} {E : XK} {b : Bool} {r : Ru}
theorem u_is_whole (h : EvD K te σ B d) : EvD K (tCall (spP K 1 R_is_whole) [] E (tCons te tNil)) σ B (.bool (wholeD d)) := d_call (da_cons h da_nil) (sp_P rfl ⟨d, rfl, rfl⟩)
theorem u_is_row (h : EvD K te σ B d) : EvD K (tCall (spP K 1 R_is_row) [] E (tCons te tNil)) σ B (.bool (rowD d)) := d_call (da_cons h da_nil) (sp_P rfl ⟨d, rfl, rfl⟩)
theorem u_check_number {v l : Int} (h : EvD K te σ B (.int v)) (h2 : EvD K tf σ B (.int l)) (hl : l ≤ v) : EvD K (tCall (spP K 3 R_check_number) [.non] E (tCons te (tCons tf tNil))) σ B .none :=
  d_call (da_cons h (da_cons h2 da_nil)) (sp_PD (dds := [.none]) (fun _ => .one .non) rfl ⟨v, l, none, rfl, hl, (fun _ z => nomatch z), rfl⟩)
theorem u_check_number3 {v l g : Int} (h : EvD K te σ B (.int v)) (h2 : EvD K tf σ B (.int l)) (h3 : EvD K tg σ B (.int g)) (hl : l ≤ v) (hg : v ≤ g) : EvD K (tCall (spP K 3 R_check_number) [] E (tCons te (tCons tf (tCons tg tNil)))) σ B .none :=
  d_call (da_cons h (da_cons h2 (da_cons h3 da_nil))) (sp_P rfl ⟨v, l, some g, rfl, hl, (fun x z => by cases z; exact hg), rfl⟩)
theorem u_is_rule (h : EvD K te σ B (ruD b r)) (ok : okR r) : EvD K (tCall (spP K 1 R_is_rule) [] E (tCons te tNil)) σ B (.bool true) := d_call (da_cons h da_nil) (sp_P rfl ⟨b, r, rfl, ok, rfl⟩)
theorem u_check_rule (h : EvD K te σ B (ruD b r)) (ok : okR r) : EvD K (tCall (spP K 1 R_check_rule) [] E (tCons te tNil)) σ B .none := d_call (da_cons h da_nil) (sp_P rfl ⟨b, r, rfl, ok, rfl⟩)
theorem u_limit_of {t : Int} (h : EvD K te σ B (ruD b r)) (h2 : EvD K tf σ B (.int t)) (ok : okR r) : EvD K (tCall (spP K 2 R_limit_of) [] E (tCons te (tCons tf tNil))) σ B (optD (limR r t)) := d_call (da_cons h (da_cons h2 da_nil)) (sp_P rfl ⟨b, r, t, rfl, ok, rfl⟩)
theorem u_most {t : Int} (h : EvD K te σ B (ruD b r)) (h2 : EvD K tf σ B (.int t)) (ok : okR r) (h0 : 0 ≤ t) : EvD K (tCall (spP K 2 R_most) [] E (tCons te (tCons tf tNil))) σ B (optD (limR r t)) := d_call (da_cons h (da_cons h2 da_nil)) (sp_P rfl ⟨b, r, t, rfl, ok, h0, rfl⟩)
theorem u_coins_within {h : Int} {g : Option Int} (e : EvD K te σ B (.int h)) (e2 : EvD K tf σ B (optD g)) (h1 : 1 ≤ h) (h2 : h ≤ 1000) : EvD K (tCall (spP K 2 R_coins_within) [] E (tCons te (tCons tf tNil))) σ B (optT (cwL h g)) := d_call (da_cons e (da_cons e2 da_nil)) (sp_P rfl ⟨h, g, rfl, h1, h2, rfl⟩)
theorem u_coins_for {h t : Int} (e : EvD K te σ B (.int h)) (e2 : EvD K tf σ B (ruD b r)) (e3 : EvD K tg σ B (.int t)) (h1 : 1 ≤ h) (h2 : h ≤ 1000) (ok : okR r) (h0 : 0 ≤ t) : EvD K (tCall (spP K 3 R_coins_for) [] E (tCons te (tCons tf (tCons tg tNil)))) σ B (optT (cwL h (limR r t))) :=
  d_call (da_cons e (da_cons e2 (da_cons e3 da_nil))) (sp_P rfl ⟨h, b, r, t, rfl, h1, h2, ok, h0, rfl⟩)
theorem u_check_coins {ns : List Int} (h : EvD K te σ B (rows b (ns.map .int))) (hc : ∀ c ∈ ns, c = 0 ∨ c = 1) : EvD K (tCall (spP K 1 R_check_coins) [] E (tCons te tNil)) σ B .none := d_call (da_cons h da_nil) (sp_P rfl ⟨b, ns, rfl, hc, rfl⟩)
theorem u_check_heights {ns : List Int} (h : EvD K te σ B (rows b (ns.map .int))) (hc : ∀ c ∈ ns, 1 ≤ c) : EvD K (tCall (spP K 1 R_check_heights) [] E (tCons te tNil)) σ B .none := d_call (da_cons h da_nil) (sp_P rfl ⟨b, ns, rfl, hc, rfl⟩)
theorem u_coins_of {ns : List Int} {b2 : Bool} (h : EvD K te σ B (rows b (ns.map .int))) (h2 : EvD K tf σ B (ruD b2 r)) (hc : ∀ c ∈ ns, 1 ≤ c ∧ c ≤ 100) (ok : okR r) (hl : ns.length ≤ 1000) : EvD K (tCall (spP K 2 R_coins_of) [] E (tCons te (tCons tf tNil))) σ B (optT (dueF r 0 ns)) :=
  d_call (da_cons h (da_cons h2 da_nil)) (sp_P rfl ⟨b, ns, b2, r, rfl, hc, ok, hl, rfl⟩)
theorem d_chain {i j l : Int} {f g : Int → Int → Bool} (ha : EvD K ta σ B (.int i)) (hb : EvD K tb σ B (.int j)) (hc : EvD K tc σ B (.int l)) : EvD K (tChain (rI0 fun i j => .bl (f i j)) (rI0 fun i j => .bl (g i j)) ta tb tc) σ B (.bool (f i j && g j l)) := fun H1 x Q q =>
  ha H1 x _ fun v G2 H2 g2 hv => hb.mono g2.hg H2 g2.g2 _ fun w G3 H3 g3 hw => by
    refine ⟨i, j, hv.int_of, hw.int_of, f i j, rfl, ?_⟩
    cases hf : f i j with
    | false =>
      rw [hf] at q
      exact q _ G3 H3 (g2.trans g3) (.bl _)
    | true =>
      rw [hf, Bool.true_and] at q
      show tc σ H3 fun w' H4 => _
      exact (hc.mono (g2.hg.trans g3.hg)) H3 g3.g2 _ fun u G4 H4 g4 hu => ⟨j, l, hw.int_of, hu.int_of, q _ G4 H4 ((g2.trans g3).trans g4) (.bl _)⟩
end
theorem held_of {P : Program} {w : World} {K : PySem.W.Frag} {mg : Str → Option Value} {base : Heap} {x : Str} {k : Nat} {ps : List Str} {sp : Sp} {f : Addr} (A : Has P w K mg base CX0 x k ps [] sp) (hm : mg x = some (.ref f)) : Held P w K mg base k f sp := by
  obtain ⟨f', fd, ds, F, hm', hk, hv, hb⟩ := A.ex
  have e : f' = f := by
    rw [hm] at hm'
    cases hm'
    rfl
  subst e
  cases hv
  exact ⟨fd, ps, F, hk, hb⟩
section
variable {P : Program} {w : World} {K : PySem.W.Frag} {mg : Str → Option Value} {base : Heap} {CX : CXT} {f : Addr} {fd : FuncData}
theorem H_is_whole (bl : Bl mg) (F : FunD K "is_whole" "is_whole" (defArgs s_is_whole) (defBody s_is_whole) (defScope s_is_whole) [] [] f fd) (hm : mg "is_whole" = some (.ref f)) :
    Has P w K mg base CX "is_whole" 1 ["thing"] [] (spP K 1 R_is_whole) := by
  refine has_mk F hm sc_is_whole (spP_len rfl) (fun _ _ _ _ _ _ us hl => match us, hl with | [_], _ => rfl) fun cdv A outer s H vs Q E hr h => ?_
  obtain ⟨B, ds, z, x, hl, hd, ⟨d, rfl, rfl⟩, q⟩ := h
  match vs, hd with
  | [v1], .cons h1 .nil =>
    refine ⟨_, (pss_one (ps_ret (pe_and (pe_callB call_isi (by rfl) bl.isinstance bb_isinstance (pa_cons (pv 0) (pa_cons (pe_bltn (v := .ty "int") (by rfl) bl.int bb_int rfl) pa_nil))) (pe_one (pe_not (pe_callB call_isi (by rfl) bl.isinstance bb_isinstance (pa_cons (pv 0) (pa_cons (pe_bltn (v := .ty "bool") (by rfl) bl.bool bb_bool rfl) pa_nil)))))))), ?_⟩
    refine sd_ret x (d_is (d_and (d_isi (d_var rfl h1) kit_int) fun _ => d_not (d_isi (d_var rfl h1) kit_bool)) ?_) fun v G H1 g hv => q v G H1 g hv
    cases d <;> rfl
theorem H_is_row (bl : Bl mg) (F : FunD K "is_row" "is_row" (defArgs s_is_row) (defBody s_is_row) (defScope s_is_row) [] [] f fd) (hm : mg "is_row" = some (.ref f)) :
    Has P w K mg base CX "is_row" 1 ["thing"] [] (spP K 1 R_is_row) := by
  refine has_mk F hm sc_is_row (spP_len rfl) (fun _ _ _ _ _ _ us hl => match us, hl with | [_], _ => rfl) fun cdv A outer s H vs Q E hr h => ?_
  obtain ⟨B, ds, z, x, hl, hd, ⟨d, rfl, rfl⟩, q⟩ := h
  match vs, hd with
  | [v1], .cons h1 .nil =>
    refine ⟨_, (pss_one (ps_ret (pe_callB call_isiT (by rfl) bl.isinstance bb_isinstance (pa_cons (pv 0) (pa_cons (pe_tup (pa_cons (pe_bltn (v := .ty "list") (by rfl) bl.list bb_list rfl) (pa_cons (pe_bltn (v := .ty "tuple") (by rfl) bl.tuple bb_tuple rfl) pa_nil))) pa_nil))))), ?_⟩
    refine sd_ret x (d_is (d_isi2 (d_var rfl h1) kit_list kit_tuple) ?_) fun v G H1 g hv => q v G H1 g hv
    cases d <;> rfl
theorem B_check_number (nx : NoY CX) (G_is_whole : Has P w K mg base CX "is_whole" 1 ["thing"] [] (spP K 1 R_is_whole)) {cdv : Value} {A : Around} {outer : List Env} {s : Shared} {H : Hp} {vs : List V} {Q : VK} {E : XK} (hr : Room 1 (A.deeper (envOfC "check_number" (defScope s_check_number) s.heap.objs.size f cdv)))
    (h : spP K 3 R_check_number vs H Q E) : ∃ t, PSs (cxOf CX P w K mg base n_check_number "check_number" (defScope s_check_number) f cdv A outer s H E).nox (defBody s_check_number) t ∧ t { nx := fun _ H' => Q .non H', rt := Q } (start n_check_number vs) H := by
  obtain ⟨B, ds, z, x, hl, hd, ⟨v, l, g, rfl, hle, hge, rfl⟩, q⟩ := h
  match vs, hd with
  | [_, _, _], .cons h1 (.cons h2 (.cons h3 .nil)) =>
    refine ⟨_, (pss_cons (ps_if (PW.pt (pw_or (pt_not (pt_val (pe_has G_is_whole (hr.mono (by decide)) (by rfl) (pa_cons (pv 0) pa_nil) (nx _)))) (pw_or1 (pt_cmpR op_lt (pv 0) (pv 1) (nomark _))))) (pss_one ps_never) pss_nil) (pss_one (ps_if (PW.pt (pw_and (pt_cmpR op_notN (pv 2) pe_non (nomark _)) (pw_and1 (pt_cmpR op_gt (pv 0) (pv 2) (nomark _))))) (pss_one ps_never) pss_nil))), ?_⟩
    refine qd_no x (et_is (et_or (et_not (t_val (u_is_whole (d_var rfl h1)))) fun _ => t_test (d_op (d_var rfl h1) (d_var rfl h2) fun _ _ => rd_cmp)) (by show (false || decide (v < l)) = false; rw [decide_eq_false (by omega)]; rfl)) fun H1 e1 => ?_
    cases g with
    | none => exact sd_no (x.trans e1) (et_is (et_and (b := true) (t_test (d_op (d_var rfl h3) d_non fun _ _ => rd_notN)) fun z => Bool.noConfusion z) rfl) fun H2 e2 => q _ B H2 (.ex x (e1.trans e2)) .non
    | some g =>
      have := hge g rfl
      exact sd_no (x.trans e1) (et_is (et_and (t_test (d_op (d_var rfl h3) d_non fun _ _ => rd_notN)) fun _ => t_test (K := K) (d_op (d_var rfl h1) (d_var rfl h3) fun _ _ => rd_cmp)) (by show (true && decide (v > g)) = false; rw [decide_eq_false (by omega)]; rfl)) fun H2 e2 => q _ B H2 (.ex x (e1.trans e2)) .non
theorem H_check_number (nx : NoY CX) (G_is_whole : Has P w K mg base CX "is_whole" 1 ["thing"] [] (spP K 1 R_is_whole))
    (F : FunD K "check_number" "check_number" (defArgs s_check_number) (defBody s_check_number) (defScope s_check_number) [.non] [] f fd) (hm : mg "check_number" = some (.ref f)) :
    Has P w K mg base CX "check_number" 2 ["value", "least", "greatest"] [.non] (spP K 3 R_check_number) :=
  has_mkD (n := 2) F hm sc_check_number (spP_len rfl) (by simp) rfl (fun _ _ _ _ _ _ _ us its hl hi => match us, its, hl, hi with | [_, _], [_], _, _ => ⟨_, rfl, rfl⟩) fun cdv A outer s H vs Q E hr h => B_check_number nx G_is_whole hr h
/-- .. with all three -/
theorem H_check_number3 (nx : NoY CX) (G_is_whole : Has P w K mg base CX "is_whole" 1 ["thing"] [] (spP K 1 R_is_whole))
    (F : FunD K "check_number" "check_number" (defArgs s_check_number) (defBody s_check_number) (defScope s_check_number) [.non] [] f fd) (hm : mg "check_number" = some (.ref f)) :
    Has P w K mg base CX "check_number" 2 ["value", "least", "greatest"] [] (spP K 3 R_check_number) := by
  obtain ⟨ds, hv, hb⟩ := F.binds1 (ps := ["value", "least", "greatest"]) 3 1 (by simp) rfl (fun _ _ _ _ _ _ _ us its hl hi => match us, its, hl, hi with | [_, _, _], [_], _, _ => ⟨_, rfl, rfl⟩)
  refine ⟨f, fd, ds, F.ok sc_check_number (spP_len rfl) fun cdv A outer s H vs Q E hr hs => ?_, hm, F.kp, hv, hb⟩
  obtain ⟨t, h1, h2⟩ := B_check_number nx G_is_whole hr hs
  exact ⟨t, h1.nox, h2⟩
theorem H_is_coin (nx : NoY CX) (G_is_whole : Has P w K mg base CX "is_whole" 1 ["thing"] [] (spP K 1 R_is_whole))
    (F : FunD K "is_coin" "is_coin" (defArgs s_is_coin) (defBody s_is_coin) (defScope s_is_coin) [] [] f fd) (hm : mg "is_coin" = some (.ref f)) :
    Has P w K mg base CX "is_coin" 2 ["thing"] [] (spP K 1 R_is_coin) := by
  refine has_mk F hm sc_is_coin (spP_len rfl) (fun _ _ _ _ _ _ us hl => match us, hl with | [_], _ => rfl) fun cdv A outer s H vs Q E hr h => ?_
  obtain ⟨B, ds, z, x, hl, hd, ⟨c, rfl, hc, rfl⟩, q⟩ := h
  match vs, hd with
  | [v1], .cons h1 .nil =>
    refine ⟨_, (pss_one (ps_ret (pe_and (pe_has G_is_whole (hr.mono (by decide)) (by rfl) (pa_cons (pv 0) pa_nil) (nx _)) (pe_one (pe_or (pe_cmpR op_eq (pv 0) pe_int (nomark _)) (pe_one (pe_cmpR op_eq (pv 0) pe_int (nomark _)))))))), ?_⟩
    refine sd_ret x (d_is (d_and (u_is_whole (d_var rfl h1)) fun _ => d_or (d_op (d_var rfl h1) d_int fun _ _ => rd_eq rfl) fun _ => d_op (d_var rfl h1) d_int fun _ _ => rd_eq rfl) ?_) fun v G H1 g hv => q v G H1 g hv
    rcases hc with rfl | rfl <;> rfl
theorem H_is_height (nx : NoY CX) (G_is_whole : Has P w K mg base CX "is_whole" 1 ["thing"] [] (spP K 1 R_is_whole))
    (F : FunD K "_is_height" "_is_height" (defArgs s_is_height) (defBody s_is_height) (defScope s_is_height) [] [] f fd) (hm : mg "_is_height" = some (.ref f)) :
    Has P w K mg base CX "_is_height" 2 ["thing"] [] (spP K 1 R_is_height) := by
  refine has_mk F hm sc_is_height (spP_len rfl) (fun _ _ _ _ _ _ us hl => match us, hl with | [_], _ => rfl) fun cdv A outer s H vs Q E hr h => ?_
  obtain ⟨B, ds, z, x, hl, hd, ⟨c, rfl, hc, rfl⟩, q⟩ := h
  match vs, hd with
  | [v1], .cons h1 .nil =>
    refine ⟨_, (pss_one (ps_ret (pe_and (pe_has G_is_whole (hr.mono (by decide)) (by rfl) (pa_cons (pv 0) pa_nil) (nx _)) (pe_one (pe_cmpR op_ge (pv 0) pe_int (nomark _)))))), ?_⟩
    refine sd_ret x (d_is (d_and (u_is_whole (d_var rfl h1)) fun _ => d_op (d_var rfl h1) d_int fun _ _ => rd_cmp) ?_) fun v G H1 g hv => q v G H1 g hv
    show PyData.bool (true && decide (c ≥ 1)) = _
    rw [decide_eq_true (by omega)]
    rfl
theorem H_first_wrong {S : Addr → Option Sp} (bl : Bl mg) (nx : NoY CX) (hA : ∀ f sp, S f = some sp → Held P w K mg base 2 f sp) (G_is_row : Has P w K mg base CX "is_row" 1 ["thing"] [] (spP K 1 R_is_row))
    (F : FunD K "first_wrong" "first_wrong" (defArgs s_first_wrong) (defBody s_first_wrong) (defScope s_first_wrong) [] [] f fd) (hm : mg "first_wrong" = some (.ref f)) :
    Has P w K mg base CX "first_wrong" 3 ["thing", "is_right"] [] (spFW K S) := by
  refine has_mk F hm sc_first_wrong (fun vs H Q E h => by obtain ⟨_, _, _, _, _, _, rfl, _⟩ := h; rfl) (fun _ _ _ _ _ _ us hl => match us, hl with | [_, _], _ => rfl) fun cdv A outer s H vs Q E hr h => ?_
  obtain ⟨B, v1, f2, b, ds, R, rfl, x, h1, hS, hR, q⟩ := h
  refine ⟨_, (pss_cons (ps_if (pt_not (pt_val (pe_has G_is_row (hr.mono (by decide)) (by rfl) (pa_cons (pv 0) pa_nil) (nx _)))) (pss_one (ps_ret (pe_un un_neg pe_int))) pss_nil) (pss_cons (ps_for PassesOwn.never rfl (pi_enumR (by rfl) bl.enumerate (pa_cons (pv 0) pa_nil)) (pg_row rfl (pgs_cons (pg_name (i := 2) sc_first_wrong.nd rfl (by first | exact .inl rfl | exact .inr rfl)) (pgs_cons (pg_name (i := 3) sc_first_wrong.nd rfl (by first | exact .inl rfl | exact .inr rfl)) pgs_nil))) (pss_one (ps_if (pt_not (pt_val (pe_callA (i := 1) hA (hr.mono (by decide)) rfl (by first | exact .inl rfl | exact .inr rfl) (pa_cons (pv 3) pa_nil)))) (pss_one (ps_ret (pv 2))) pss_nil))) (pss_one (ps_ret pe_non)))), ?_⟩
  refine qd_no x (et_is (et_not (t_val (K := K) (u_is_row (d_var rfl h1)))) (by rw [rowD_rows]; rfl)) fun H1 e1 => ?_
  refine qd_forE (x.trans e1) h1 rfl (fun i σ' H' => (∃ a c, σ' = [some v1, some (.ref f2), a, c]) ∧ Ex H H') ⟨⟨_, _, rfl⟩, e1⟩ (fun i σ' H' _ p => x.trans p.2) (fun i d y σ' H' H2 hi hy p e2 => ?_) fun σ' H' p => ?_
  · obtain ⟨⟨a, c, rfl⟩, e⟩ := p
    have key : EvD K (tCallA 1 S (tCons (tVar 3) tNil)) [some v1, some (.ref f2), some (.int (0 + (i : Int))), some y] B (.bool true) := fun H1 x Q q =>
      ⟨f2, _, rfl, hS, y, rfl, B, [d], .bool true, x, rfl, .one hy, hR d (List.mem_of_getElem? hi), q⟩
    exact sd_no ((x.trans e).trans e2) (et_is (et_not (t_val key)) rfl) fun H3 e3 => ⟨⟨_, _, rfl⟩, (e.trans e2).trans e3⟩
  · obtain ⟨⟨a, c, rfl⟩, e⟩ := p
    exact sd_ret (K := K) (x.trans e) d_non fun v G H5 g hv => by
      rw [hv.non_of]
      exact q H5 (e.trans g.h12)
theorem d_fw {S : Addr → Option Sp} {σ : L2.St} {B : Hp} {te : TE} {E : XK} {fa : Addr} {b : Bool} {ds : List PyData} {R : List PyData → PyData → Prop} (h : EvD K te σ B (rows b ds)) (hS : S fa = some (spP K 1 R)) (hR : ∀ d ∈ ds, R [d] (.bool true)) : EvD K (tCall (spFW K S) [] E (tCons te (tCons (tC (.ref fa)) tNil))) σ B .none := fun H1 x Q q =>
  h H1 x _ fun v G H2 g hv => ⟨G, v, fa, b, ds, R, rfl, g.g2, hv, hS, hR, fun H' e => q _ G H' (g.trans (Gr.ex g.g2 e)) .non⟩
theorem H_check_coins {S : Addr → Option Sp} {fc : Addr} (nx : NoY CX) (G_first_wrong : Has P w K mg base CX "first_wrong" 3 ["thing", "is_right"] [] (spFW K S)) (g_is_coin : mg "is_coin" = some (.ref fc)) (hS : S fc = some (spP K 1 R_is_coin))
    (F : FunD K "check_coins" "check_coins" (defArgs s_check_coins) (defBody s_check_coins) (defScope s_check_coins) [] [] f fd) (hm : mg "check_coins" = some (.ref f)) :
    Has P w K mg base CX "check_coins" 4 ["coins"] [] (spP K 1 R_check_coins) := by
  refine has_mk F hm sc_check_coins (spP_len rfl) (fun _ _ _ _ _ _ us hl => match us, hl with | [_], _ => rfl) fun cdv A outer s H vs Q E hr h => ?_
  obtain ⟨B, ds, z, x, hl, hd, ⟨b, ns, rfl, hc, rfl⟩, q⟩ := h
  have r_is_coin : RelV (.ref fc) (.ref fc) := rfl
  match vs, hd with
  | [v1], .cons h1 .nil =>
    refine ⟨_, (pss_cons (ps_set (i := 1) sc_check_coins.nd rfl (by first | exact .inl rfl | exact .inr rfl) (pe_has G_first_wrong (hr.mono (by decide)) (by rfl) (pa_cons (pv 0) (pa_cons (pe_glob (by rfl) g_is_coin r_is_coin) pa_nil)) (nx _))) (pss_one (ps_if (pt_cmpR op_notN (pv 1) pe_non (nomark _)) (pss_one ps_never) pss_nil))), ?_⟩
    refine qd_asg (K := K) x (d_fw (d_var rfl h1) hS fun d hd => ?_) fun v G H1 g hv => ?_
    · obtain ⟨c, hc1, rfl⟩ := List.mem_map.mp hd
      exact ⟨c, rfl, hc c hc1, rfl⟩
    · exact sd_no g.g2 (t_test (K := K) (d_op (d_var rfl hv) d_non fun _ _ => rd_notN)) fun H2 e2 => q _ G H2 (g.trans (Gr.ex g.g2 e2)) .non
theorem H_check_heights {S : Addr → Option Sp} {fc : Addr} (nx : NoY CX) (G_first_wrong : Has P w K mg base CX "first_wrong" 3 ["thing", "is_right"] [] (spFW K S)) (g__is_height : mg "_is_height" = some (.ref fc)) (hS : S fc = some (spP K 1 R_is_height))
    (F : FunD K "check_heights" "check_heights" (defArgs s_check_heights) (defBody s_check_heights) (defScope s_check_heights) [] [] f fd) (hm : mg "check_heights" = some (.ref f)) :
    Has P w K mg base CX "check_heights" 4 ["heights"] [] (spP K 1 R_check_heights) := by
  refine has_mk F hm sc_check_heights (spP_len rfl) (fun _ _ _ _ _ _ us hl => match us, hl with | [_], _ => rfl) fun cdv A outer s H vs Q E hr h => ?_
  obtain ⟨B, ds, z, x, hl, hd, ⟨b, ns, rfl, hc, rfl⟩, q⟩ := h
  have r__is_height : RelV (.ref fc) (.ref fc) := rfl
  match vs, hd with
  | [v1], .cons h1 .nil =>
    refine ⟨_, (pss_cons (ps_set (i := 1) sc_check_heights.nd rfl (by first | exact .inl rfl | exact .inr rfl) (pe_has G_first_wrong (hr.mono (by decide)) (by rfl) (pa_cons (pv 0) (pa_cons (pe_glob (by rfl) g__is_height r__is_height) pa_nil)) (nx _))) (pss_one (ps_if (pt_cmpR op_notN (pv 1) pe_non (nomark _)) (pss_one ps_never) pss_nil))), ?_⟩
    refine qd_asg (K := K) x (d_fw (d_var rfl h1) hS fun d hd => ?_) fun v G H1 g hv => ?_
    · obtain ⟨c, hc1, rfl⟩ := List.mem_map.mp hd
      exact ⟨c, rfl, hc c hc1, rfl⟩
    · exact sd_no g.g2 (t_test (K := K) (d_op (d_var rfl hv) d_non fun _ _ => rd_notN)) fun H2 e2 => q _ G H2 (g.trans (Gr.ex g.g2 e2)) .non
end
end Tk
end

section
set_option Elab.async false
set_option linter.all false
set_option maxRecDepth 100000
set_option maxHeartbeats 1000000
/-! k04, the program's rules and coins of heights. -/
namespace Tk
open PySem PySem.Spec PyProof.Rows L2 Evl Tb
theorem at_zero {α : Type} {a : α} {l : List α} : atI (a :: l) 0 = some a := atI_nat (j := 0) rfl
theorem dp_optT_none {K : PySem.W.Frag} {H : Hp} {v : V} {o : Option (List Int)} (h : Dp K H v (optT o)) (e : o = none) : v = .non := by
  subst e
  exact h.non_of
section
variable {P : Program} {w : World} {K : PySem.W.Frag} {mg : Str → Option Value} {base : Heap} {CX : CXT} {f : Addr} {fd : FuncData}
theorem H_is_rule {tk : Tok} (bl : Bl mg) (nx : NoY CX) (g_GREATEST_LIMIT : mg "GREATEST_LIMIT" = some (.int 64 tk)) (G_is_whole : Has P w K mg base CX "is_whole" 1 ["thing"] [] (spP K 1 R_is_whole)) (G_is_row : Has P w K mg base CX "is_row" 1 ["thing"] [] (spP K 1 R_is_row))
    (F : FunD K "is_rule" "is_rule" (defArgs s_is_rule) (defBody s_is_rule) (defScope s_is_rule) [] [] f fd) (hm : mg "is_rule" = some (.ref f)) :
    Has P w K mg base CX "is_rule" 2 ["thing"] [] (spP K 1 R_is_rule) := by
  refine has_mk F hm sc_is_rule (spP_len rfl) (fun _ _ _ _ _ _ us hl => match us, hl with | [_], _ => rfl) fun cdv A outer s H vs Q E hr h => ?_
  obtain ⟨B, ds, z, x, hl, hd, ⟨b, r, rfl, ok, rfl⟩, q⟩ := h
  have r_GREATEST_LIMIT : RelV (.int 64) (.int 64 tk) := ⟨tk, rfl⟩
  match vs, hd with
  | [v1], .cons h1 .nil =>
    refine ⟨_, (pss_cons (ps_if (PW.pt (pw_or (pt_not (pt_val (pe_has G_is_row (hr.mono (by decide)) (by rfl) (pa_cons (pv 0) pa_nil) (nx _)))) (pw_or (pt_cmpR op_notIn_seq (pe_callB call_len_seq (by rfl) bl.len bb_len (pa_cons (pv 0) pa_nil)) (pe_tup (pa_cons pe_int (pa_cons pe_int pa_nil))) (by rfl)) (pw_or1 (pt_not (pt_val (pe_callB call_isi (by rfl) bl.isinstance bb_isinstance (pa_cons (pe_ix ix_row (pv 0) pe_int (fun _ _ => rfl)) (pa_cons (pe_bltn (v := .ty "str") (by rfl) bl.str bb_str rfl) pa_nil))))))))) (pss_one (ps_ret pe_bl)) pss_nil) (pss_cons (ps_if (pt_cmpR op_eq (pe_callB call_len_seq (by rfl) bl.len bb_len (pa_cons (pv 0) pa_nil)) pe_int (nomark _)) (pss_one (ps_ret (pe_cmpR op_in_seq (pe_ix ix_row (pv 0) pe_int (fun _ _ => rfl)) (pe_tup (pa_cons pe_str (pa_cons pe_str pa_nil))) (by rfl)))) pss_nil) (pss_cons (ps_asg (pv 0) (pg_row rfl (pgs_cons (pg_name (i := 1) sc_is_rule.nd rfl (by first | exact .inl rfl | exact .inr rfl)) (pgs_cons (pg_name (i := 2) sc_is_rule.nd rfl (by first | exact .inl rfl | exact .inr rfl)) pgs_nil)))) (pss_one (ps_ret (pe_and (pe_cmpR op_in_seq (pv 1) (pe_tup (pa_cons pe_str (pa_cons pe_str pa_nil))) (by rfl)) (pe_and (pe_has G_is_whole (hr.mono (by decide)) (by rfl) (pa_cons (pv 2) pa_nil) (nx _)) (pe_one (pe_chain op_le op_le pe_int (pv 2) (pe_glob (by rfl) g_GREATEST_LIMIT r_GREATEST_LIMIT)))))))))), ?_⟩
    have two : ∀ G, Ex B G → ∀ σ, EvD K (tTup (tCons (tC (.int 1)) (tCons (tC (.int 2)) tNil))) σ G (rows false (([1, 2] : List Int).map .int)) := fun G _ σ => d_tup (da_cons d_int (da_cons d_int da_nil)) (by show 2 ≤ 100000; decide)
    have fin : ∀ v G H1, Gr B H G H1 → Dp K G v (.bool true) → Q v H1 := q
    -- the first look, whatever the rule
    have look : ∀ (zs : List PyData) (wd : Str), Dp K B v1 (rows b (.str wd :: zs)) → zs.length ≤ 1 → EvT (tOr (tNot (tB (tCall (spP K 1 R_is_row) [] E0 (tCons (tVar 0) tNil)))) (tOr (tTest (tOp (rIn K true) (tCB (fun xs H Q => ∃ p ys, xs = [V.ref p] ∧ (SqL K H p ys ∨ SqT K H p ys) ∧ Q (.int ys.length) H) (tCons (tVar 0) tNil)) (tTup (tCons (tC (.int 1)) (tCons (tC (.int 2)) tNil)))))
        (tNot (tB (tCB (rIsi K) (tCons (tOp (rIxR K) (tVar 0) (tC (.int 0))) (tCons (tC (.ty "str")) tNil)))))))
        [some v1, none, none] B false := fun zs wd h1 hz => by
      refine et_is (et_or (b := false) (et_not (t_val (K := K) (u_is_row (d_var rfl h1)))) fun _ => et_or (a := false) (b := false) (et_is (t_test (K := K) (d_op (d_cb (da_cons (d_var rfl h1) da_nil) fun _ _ => rcd_len) (two B (Ex.refl B) _) fun _ _ => rd_inI)) ?_) fun _ => et_not (a := true) (t_val (K := K) (d_isi (d := .str wd) (d_op (d_var rfl h1) d_int fun _ _ => rd_ix at_zero) kit_str))) (by rw [rowD_rows]; rfl)
      match zs, hz with
      | [], _ => rfl
      | [_], _ => rfl
    cases r with
    | free =>
      refine qd_no x (look [] "free" h1 (by decide)) fun H1 e1 => qd_when (b := true) (x.trans e1) (t_test (K := K) (d_op (d_cb (da_cons (d_var rfl h1) da_nil) fun _ _ => rcd_len (b := b)) d_int fun _ _ => rd_eq rfl)) (fun _ H2 e2 => ?_) fun z => Bool.noConfusion z
      exact sd_ret (K := K) (d := .bool true) ((x.trans e1).trans e2) (d_op (d_op (d_var rfl h1) d_int fun _ _ => rd_ix (b := b) (e := .str "free") rfl) (d_tup (da_cons d_str (da_cons d_str da_nil)) (by show 2 ≤ 100000; decide)) fun _ _ => rd_inZ (b := false) (zs := ["free", "step"]) (neg := false)) fun v G H3 g hv => fin v G H3 ((Gr.ex x (e1.trans e2)).trans g) hv
    | step =>
      refine qd_no x (look [] "step" h1 (by decide)) fun H1 e1 => qd_when (b := true) (x.trans e1) (t_test (K := K) (d_op (d_cb (da_cons (d_var rfl h1) da_nil) fun _ _ => rcd_len (b := b)) d_int fun _ _ => rd_eq rfl)) (fun _ H2 e2 => ?_) fun z => Bool.noConfusion z
      exact sd_ret (K := K) (d := .bool true) ((x.trans e1).trans e2) (d_op (d_op (d_var rfl h1) d_int fun _ _ => rd_ix (b := b) (e := .str "step") rfl) (d_tup (da_cons d_str (da_cons d_str da_nil)) (by show 2 ≤ 100000; decide)) fun _ _ => rd_inZ (b := false) (zs := ["free", "step"]) (neg := false)) fun v G H3 g hv => fin v G H3 ((Gr.ex x (e1.trans e2)).trans g) hv
    | cap n =>
      refine qd_no x (look [.int n] "cap" h1 (Nat.le_refl 1)) fun H1 e1 => qd_no (x.trans e1) (t_test (K := K) (d_op (d_cb (da_cons (d_var rfl h1) da_nil) fun _ _ => rcd_len (b := b)) d_int fun _ _ => rd_eq rfl)) fun H2 e2 => ?_
      refine qd_pair (K := K) (b := b) (d := .str "cap") (e := .int n) ((x.trans e1).trans e2) (d_var rfl h1) fun y z G H3 g hy hz => ?_
      refine sd_ret (K := K) g.g2 (d_is (d_and (a := true) (d_op (d_var rfl hy) (d_tup (da_cons d_str (da_cons d_str da_nil)) (by show 2 ≤ 100000; decide)) fun _ _ => rd_inZ (b := false) (zs := ["cap", "step"]) (neg := false)) fun _ => d_and (u_is_whole (d_var rfl hz)) fun _ => d_chain (f := fun i j => decide (i ≤ j)) (g := fun i j => decide (i ≤ j)) d_int (d_var rfl hz) fun H1 x Q q => q _ G H1 (.refl x) (.int 64)) ?_) fun v G4 H4 g4 hv => fin v G4 H4 (((Gr.ex x (e1.trans e2)).trans g).trans g4) hv
      show PyData.bool (true && (true && (decide (1 ≤ n) && decide (n ≤ 64)))) = _
      rw [decide_eq_true ok.1, decide_eq_true ok.2]
      rfl
    | stepc n =>
      refine qd_no x (look [.int n] "step" h1 (Nat.le_refl 1)) fun H1 e1 => qd_no (x.trans e1) (t_test (K := K) (d_op (d_cb (da_cons (d_var rfl h1) da_nil) fun _ _ => rcd_len (b := b)) d_int fun _ _ => rd_eq rfl)) fun H2 e2 => ?_
      refine qd_pair (K := K) (b := b) (d := .str "step") (e := .int n) ((x.trans e1).trans e2) (d_var rfl h1) fun y z G H3 g hy hz => ?_
      refine sd_ret (K := K) g.g2 (d_is (d_and (a := true) (d_op (d_var rfl hy) (d_tup (da_cons d_str (da_cons d_str da_nil)) (by show 2 ≤ 100000; decide)) fun _ _ => rd_inZ (b := false) (zs := ["cap", "step"]) (neg := false)) fun _ => d_and (u_is_whole (d_var rfl hz)) fun _ => d_chain (f := fun i j => decide (i ≤ j)) (g := fun i j => decide (i ≤ j)) d_int (d_var rfl hz) fun H1 x Q q => q _ G H1 (.refl x) (.int 64)) ?_) fun v G4 H4 g4 hv => fin v G4 H4 (((Gr.ex x (e1.trans e2)).trans g).trans g4) hv
      show PyData.bool (true && (true && (decide (1 ≤ n) && decide (n ≤ 64)))) = _
      rw [decide_eq_true ok.1, decide_eq_true ok.2]
      rfl
theorem H_check_rule (nx : NoY CX) (G_is_rule : Has P w K mg base CX "is_rule" 2 ["thing"] [] (spP K 1 R_is_rule))
    (F : FunD K "check_rule" "check_rule" (defArgs s_check_rule) (defBody s_check_rule) (defScope s_check_rule) [] [] f fd) (hm : mg "check_rule" = some (.ref f)) :
    Has P w K mg base CX "check_rule" 3 ["rule"] [] (spP K 1 R_check_rule) := by
  refine has_mk F hm sc_check_rule (spP_len rfl) (fun _ _ _ _ _ _ us hl => match us, hl with | [_], _ => rfl) fun cdv A outer s H vs Q E hr h => ?_
  obtain ⟨B, ds, z, x, hl, hd, ⟨b, r, rfl, ok, rfl⟩, q⟩ := h
  match vs, hd with
  | [v1], .cons h1 .nil =>
    refine ⟨_, (pss_one (ps_if (pt_not (pt_val (pe_has G_is_rule (hr.mono (by decide)) (by rfl) (pa_cons (pv 0) pa_nil) (nx _)))) (pss_one ps_never) pss_nil)), ?_⟩
    exact sd_no x (et_not (a := true) (t_val (u_is_rule (d_var rfl h1) ok))) fun H1 e1 => q _ B H1 (.ex x e1) .non
theorem H_limit_of (bl : Bl mg) (F : FunD K "limit_of" "limit_of" (defArgs s_limit_of) (defBody s_limit_of) (defScope s_limit_of) [] [] f fd) (hm : mg "limit_of" = some (.ref f)) :
    Has P w K mg base CX "limit_of" 1 ["rule", "top"] [] (spP K 2 R_limit_of) := by
  refine has_mk F hm sc_limit_of (spP_len rfl) (fun _ _ _ _ _ _ us hl => match us, hl with | [_, _], _ => rfl) fun cdv A outer s H vs Q E hr h => ?_
  obtain ⟨B, ds, z, x, hl, hd, ⟨b, r, t, rfl, ok, rfl⟩, q⟩ := h
  match vs, hd with
  | [v1, v2], .cons h1 (.cons h2 .nil) =>
    refine ⟨_, (pss_cons (ps_if (pt_cmpR op_eq (pe_ix ix_row (pv 0) pe_int (fun _ _ => rfl)) pe_str (nomark _)) (pss_one (ps_ret pe_non)) pss_nil) (pss_cons (ps_if (pt_cmpR op_eq (pe_ix ix_row (pv 0) pe_int (fun _ _ => rfl)) pe_str (nomark _)) (pss_one (ps_ret (pe_ix ix_row (pv 0) pe_int (fun _ _ => rfl)))) pss_nil) (pss_cons (ps_if (pt_cmpR op_eq (pe_callB call_len_seq (by rfl) bl.len bb_len (pa_cons (pv 0) pa_nil)) pe_int (nomark _)) (pss_one (ps_ret (pe_op op_add (pv 1) pe_int))) pss_nil) (pss_one (ps_ret (pe_callB (call_min2 rfl) (by rfl) bl.min bb_min (pa_cons (pe_op op_add (pv 1) pe_int) (pa_cons (pe_ix ix_row (pv 0) pe_int (fun _ _ => rfl)) pa_nil)))))))), ?_⟩
    have word : ∀ (wd u : Str) (zs : List PyData) (σ : L2.St), σ[0]? = some (some v1) → Dp K B v1 (rows b (.str wd :: zs)) → EvT (tTest (tOp rEq (tOp (rIxR K) (tVar 0) (tC (.int 0))) (tC (.str u)))) σ B (decide (wd = u)) := fun wd u zs σ hv h1 => t_test (K := K) (d_op (d_op (d_var hv h1) d_int fun _ _ => rd_ix (e := .str wd) at_zero) d_str fun _ _ => rd_eq rfl)
    cases r with
    | free =>
      refine qd_when (b := true) x (word "free" "free" [] _ rfl h1) (fun _ H1 e1 => ?_) fun z => Bool.noConfusion z
      exact sd_ret (K := K) (x.trans e1) d_non fun v G H3 g hv => q v G H3 ((Gr.ex x e1).trans g) hv
    | cap n =>
      refine qd_no x (word "cap" "free" _ _ rfl h1) fun H1 e1 => qd_when (b := true) (x.trans e1) (word "cap" "cap" _ _ rfl h1) (fun _ H2 e2 => ?_) fun z => Bool.noConfusion z
      exact sd_ret (K := K) (d := .int n) ((x.trans e1).trans e2) (d_op (d_var rfl h1) d_int fun _ _ => rd_ix (b := b) rfl) fun v G H3 g hv => q v G H3 ((Gr.ex x (e1.trans e2)).trans g) hv
    | step =>
      refine qd_no x (word "step" "free" _ _ rfl h1) fun H1 e1 => qd_no (x.trans e1) (word "step" "cap" _ _ rfl h1) fun H2 e2 => qd_when (b := true) ((x.trans e1).trans e2) (t_test (K := K) (d_op (d_cb (da_cons (d_var rfl h1) da_nil) fun _ _ => rcd_len (b := b)) d_int fun _ _ => rd_eq rfl)) (fun _ H3 e3 => ?_) fun z => Bool.noConfusion z
      exact sd_ret (K := K) (d := .int (t + 1)) (((x.trans e1).trans e2).trans e3) (d_op (d_var rfl h2) d_int fun _ _ => rd_int) fun v G H4 g hv => q v G H4 ((Gr.ex x ((e1.trans e2).trans e3)).trans g) hv
    | stepc n =>
      refine qd_no x (word "step" "free" _ _ rfl h1) fun H1 e1 => qd_no (x.trans e1) (word "step" "cap" _ _ rfl h1) fun H2 e2 => qd_no ((x.trans e1).trans e2) (t_test (K := K) (d_op (d_cb (da_cons (d_var rfl h1) da_nil) fun _ _ => rcd_len (b := b)) d_int fun _ _ => rd_eq rfl)) fun H3 e3 => ?_
      exact sd_ret (K := K) (d := .int (min (t + 1) n)) (((x.trans e1).trans e2).trans e3) (d_cb (da_cons (d_op (d_var rfl h2) d_int fun _ _ => rd_int) (da_cons (d_op (d_var rfl h1) d_int fun _ _ => rd_ix (b := b) (e := .int n) rfl) da_nil)) fun _ _ => rcd_min2) fun v G H4 g hv => q v G H4 ((Gr.ex x ((e1.trans e2).trans e3)).trans g) hv
theorem H_most (nx : NoY CX) (G_check_rule : Has P w K mg base CX "check_rule" 3 ["rule"] [] (spP K 1 R_check_rule)) (G_check_number : Has P w K mg base CX "check_number" 2 ["value", "least", "greatest"] [.non] (spP K 3 R_check_number)) (G_limit_of : Has P w K mg base CX "limit_of" 1 ["rule", "top"] [] (spP K 2 R_limit_of))
    (F : FunD K "most" "most" (defArgs s_most) (defBody s_most) (defScope s_most) [] [] f fd) (hm : mg "most" = some (.ref f)) :
    Has P w K mg base CX "most" 4 ["rule", "top"] [] (spP K 2 R_most) := by
  refine has_mk F hm sc_most (spP_len rfl) (fun _ _ _ _ _ _ us hl => match us, hl with | [_, _], _ => rfl) fun cdv A outer s H vs Q E hr h => ?_
  obtain ⟨B, ds, z, x, hl, hd, ⟨b, r, t, rfl, ok, t0, rfl⟩, q⟩ := h
  match vs, hd with
  | [v1, v2], .cons h1 (.cons h2 .nil) =>
    refine ⟨_, (pss_cons (ps_expr (pe_has G_check_rule (hr.mono (by decide)) (by rfl) (pa_cons (pv 0) pa_nil) (nx _))) (pss_cons (ps_expr (pe_has G_check_number (hr.mono (by decide)) (by rfl) (pa_cons (pv 1) (pa_cons pe_int pa_nil)) (nx _))) (pss_one (ps_ret (pe_has G_limit_of (hr.mono (by decide)) (by rfl) (pa_cons (pv 0) (pa_cons (pv 1) pa_nil)) (nx _)))))), ?_⟩
    refine qd_drop x (u_check_rule (d_var rfl h1) ok) fun H1 e1 => qd_drop (x.trans e1) (u_check_number (d_var rfl h2) d_int t0) fun H2 e2 => ?_
    exact sd_ret ((x.trans e1).trans e2) (u_limit_of (d_var rfl h1) (d_var rfl h2) ok) fun v G H3 g hv => q v G H3 ((Gr.ex x (e1.trans e2)).trans g) hv
theorem H_coins_within (F : FunD K "coins_within" "coins_within" (defArgs s_coins_within) (defBody s_coins_within) (defScope s_coins_within) [] [] f fd) (hm : mg "coins_within" = some (.ref f)) :
    Has P w K mg base CX "coins_within" 1 ["height", "limit"] [] (spP K 2 R_coins_within) := by
  refine has_mk F hm sc_coins_within (spP_len rfl) (fun _ _ _ _ _ _ us hl => match us, hl with | [_, _], _ => rfl) fun cdv A outer s H vs Q E hr h => ?_
  obtain ⟨B, ds, z, x, hl, hd, ⟨h, g, rfl, h1l, h2l, rfl⟩, q⟩ := h
  match vs, hd with
  | [v1, v2], .cons h1 (.cons h2 .nil) =>
    refine ⟨_, (pss_cons (ps_if (PW.pt (pw_and (pt_cmpR op_notN (pv 1) pe_non (nomark _)) (pw_and1 (pt_cmpR op_gt (pv 0) (pv 1) (nomark _))))) (pss_one (ps_ret pe_non)) pss_nil) (pss_cons (ps_set (i := 2) sc_coins_within.nd rfl (by first | exact .inl rfl | exact .inr rfl) (pe_op op_repA (pe_tup (pa_cons pe_int pa_nil)) (pe_op op_sub (pv 0) pe_int))) (pss_cons (ps_if (pt_cmpR op_eq (pv 0) (pv 1) (nomark _)) (pss_one (ps_ret (pv 2))) pss_nil) (pss_one (ps_ret (pe_op op_catA (pv 2) (pe_tup (pa_cons pe_int pa_nil)))))))), ?_⟩
    have frep : ∀ n : Nat, (List.replicate n [PyData.int 1]).flatten = (List.replicate n (1 : Int)).map .int := fun n => by
      induction n with
      | zero => rfl
      | succ n ih => rw [List.replicate_succ, List.flatten_cons, ih]; rfl
    -- the rest, once the height is allowed
    have rest : ∀ H1, Ex H H1 → (∀ l, g = some l → h ≤ l) → (tSeq (tAsg (tOp (rRepA K) (tTup (tCons (tC (.int 1)) tNil)) (tOp (rI0 fun i j => .int (i - j)) (tVar 0) (tC (.int 1)))) (gName 2)) (tSeq (tIfS (tTest (tOp rEq (tVar 0) (tVar 1))) (tRet (tVar 2)) tNext) (tRet (tOp (rCatA K) (tVar 2) (tTup (tCons (tC (.int 0)) tNil))))))
        { nx := fun _ H' => Q .non H', rt := Q } [some v1, some v2, none] H1 := fun H1 e1 hg => by
      refine qd_asg (K := K) (d := .tuple ((List.replicate (h - 1).toNat (1 : Int)).map .int)) (x.trans e1) (d_is (d_op (d_tup (ds := [.int 1]) (da_cons d_int da_nil) (by show 1 ≤ 100000; decide)) (d_op (d_var rfl h1) d_int fun _ _ => rd_int) fun _ _ => rd_repA (by simp) (by omega) (by omega) (by show 1 ≤ 1000; decide)) (by rw [frep])) fun v G H2 g2 hv => ?_
      have hll : ((List.replicate (h - 1).toNat (1 : Int)).map PyData.int).length ≤ 1000 := by
        rw [List.length_map, List.length_replicate]
        omega
      cases g with
      | none =>
        refine qd_no g2.g2 (t_test (K := K) (d_op (d := .int h) (e := optD none) (d_var rfl (dp_mono g2.hg h1)) (d_var rfl (dp_mono g2.hg h2)) fun _ _ => rd_eq rfl)) fun H3 e3 => ?_
        refine sd_ret (K := K) (g2.g2.trans e3) (d_is (d_op (d_var rfl hv) (d_tup (ds := [.int 0]) (da_cons d_int da_nil) (by show 1 ≤ 100000; decide)) fun _ _ => rd_catA (by show _ + 1 ≤ _; omega)) ?_) fun v G4 H4 g4 hv => q v G4 H4 (((Gr.ex x e1).trans g2).trans ((Gr.ex g2.g2 e3).trans g4)) hv
        show _ = PyData.tuple ((List.replicate (h - 1).toNat (1 : Int) ++ [0]).map .int)
        rw [List.map_append]
        rfl
      | some l =>
        have hle := hg l rfl
        by_cases c : h = l
        · refine qd_when (b := true) g2.g2 (et_is (t_test (K := K) (d_op (d := .int h) (e := optD (some l)) (d_var rfl (dp_mono g2.hg h1)) (d_var rfl (dp_mono g2.hg h2)) fun _ _ => rd_eq rfl)) (decide_eq_true c)) (fun _ H3 e3 => ?_) fun z => Bool.noConfusion z
          refine sd_ret (K := K) (g2.g2.trans e3) (d_is (d_var rfl hv) ?_) fun v G4 H4 g4 hv => q v G4 H4 (((Gr.ex x e1).trans g2).trans ((Gr.ex g2.g2 e3).trans g4)) hv
          unfold cwL
          show _ = optT (if l < h then none else some (List.replicate (h - 1).toNat 1 ++ (if h = l then [] else [0])))
          rw [if_neg (by omega), if_pos c, List.append_nil]
          rfl
        · refine qd_no g2.g2 (et_is (t_test (K := K) (d_op (d := .int h) (e := optD (some l)) (d_var rfl (dp_mono g2.hg h1)) (d_var rfl (dp_mono g2.hg h2)) fun _ _ => rd_eq rfl)) (decide_eq_false c)) fun H3 e3 => ?_
          refine sd_ret (K := K) (g2.g2.trans e3) (d_is (d_op (d_var rfl hv) (d_tup (ds := [.int 0]) (da_cons d_int da_nil) (by show 1 ≤ 100000; decide)) fun _ _ => rd_catA (by show _ + 1 ≤ _; omega)) ?_) fun v G4 H4 g4 hv => q v G4 H4 (((Gr.ex x e1).trans g2).trans ((Gr.ex g2.g2 e3).trans g4)) hv
          unfold cwL
          show _ = optT (if l < h then none else some (List.replicate (h - 1).toNat 1 ++ (if h = l then [] else [0])))
          rw [if_neg (by omega), if_neg c]
          show _ = PyData.tuple ((List.replicate (h - 1).toNat (1 : Int) ++ [0]).map .int)
          rw [List.map_append]
          rfl
    have ev1 := h1.int_of
    subst ev1
    cases g with
    | none => exact qd_no x (et_is (et_and (a := false) (b := true) (t_test (K := K) (d_op (d_var rfl h2) d_non fun _ _ => rd_notN)) fun z => Bool.noConfusion z) rfl) fun H1 e1 => rest H1 e1 fun _ z => nomatch z
    | some l =>
      have key := et_and (t_test (K := K) (d_op (d_var (σ := [some (.int h), some v2, none]) (i := 1) rfl h2) d_non fun _ _ => rd_notN)) fun _ => t_test (K := K) (d_op (d_var (i := 0) rfl (.int h)) (d_var (i := 1) rfl h2) fun _ _ => rd_cmp (g := fun i j => decide (i > j)))
      by_cases c : l < h
      · refine qd_when (b := true) x (et_is key (by show (true && decide (h > l)) = true; rw [decide_eq_true (by omega)]; rfl)) (fun _ H1 e1 => ?_) fun z => Bool.noConfusion z
        refine sd_ret (K := K) (x.trans e1) (d_is d_non ?_) fun v G H4 g4 hv => q v G H4 ((Gr.ex x e1).trans g4) hv
        unfold cwL
        show _ = optT (if l < h then none else some (List.replicate (h - 1).toNat 1 ++ (if h = l then [] else [0])))
        rw [if_pos c]
        rfl
      · exact qd_no x (et_is key (by show (true && decide (h > l)) = false; rw [decide_eq_false (by omega)]; rfl)) fun H1 e1 => rest H1 e1 fun l' z => by cases z; omega
theorem H_coins_for (nx : NoY CX) (G_check_number : Has P w K mg base CX "check_number" 2 ["value", "least", "greatest"] [.non] (spP K 3 R_check_number)) (G_most : Has P w K mg base CX "most" 4 ["rule", "top"] [] (spP K 2 R_most)) (G_coins_within : Has P w K mg base CX "coins_within" 1 ["height", "limit"] [] (spP K 2 R_coins_within))
    (F : FunD K "coins_for" "coins_for" (defArgs s_coins_for) (defBody s_coins_for) (defScope s_coins_for) [] [] f fd) (hm : mg "coins_for" = some (.ref f)) :
    Has P w K mg base CX "coins_for" 5 ["height", "rule", "top"] [] (spP K 3 R_coins_for) := by
  refine has_mk F hm sc_coins_for (spP_len rfl) (fun _ _ _ _ _ _ us hl => match us, hl with | [_, _, _], _ => rfl) fun cdv A outer s H vs Q E hr h => ?_
  obtain ⟨B, ds, z, x, hl, hd, ⟨h, b, r, t, rfl, h1l, h2l, ok, t0, rfl⟩, q⟩ := h
  match vs, hd with
  | [v1, v2, v3], .cons h1 (.cons h2 (.cons h3 .nil)) =>
    refine ⟨_, (pss_cons (ps_expr (pe_has G_check_number (hr.mono (by decide)) (by rfl) (pa_cons (pv 0) (pa_cons pe_int pa_nil)) (nx _))) (pss_one (ps_ret (pe_has G_coins_within (hr.mono (by decide)) (by rfl) (pa_cons (pv 0) (pa_cons (pe_has G_most (hr.mono (by decide)) (by rfl) (pa_cons (pv 1) (pa_cons (pv 2) pa_nil)) (nx _)) pa_nil)) (nx _))))), ?_⟩
    refine qd_drop x (u_check_number (d_var rfl h1) d_int h1l) fun H1 e1 => ?_
    exact sd_ret (x.trans e1) (u_coins_within (d_var rfl h1) (u_most (d_var rfl h2) (d_var rfl h3) ok t0) h1l h2l) fun v G H3 g hv => q v G H3 ((Gr.ex x e1).trans g) hv
end
end Tk
end

section
set_option Elab.async false
set_option linter.all false
set_option maxRecDepth 100000
set_option maxHeartbeats 1000000
/-! k04, the coins of heights in an order. -/
namespace Tk
open PySem PySem.Spec PyProof.Rows L2 Evl Tb
theorem gr_mut {B H0 G H' : Hp} {l : Addr} {o : HO} (g : Gr B H0 G H') (g0 : G l = none) (h0 : H0 l = none) : Gr B H0 G (upd H' l o) := ⟨g.hg, Ex.mut g.g2 g0, Ex.mut g.h12 h0, g.sep⟩
theorem cwL_len {h : Int} {g : Option Int} {c : List Int} (e : cwL h g = some c) (h1 : 1 ≤ h) (h2 : h ≤ 100) : c.length ≤ 100 := by
  cases g with
  | none =>
    cases e
    rw [List.length_append, List.length_replicate]
    show _ + 1 ≤ _
    omega
  | some l =>
    replace e : (if l < h then none else some (List.replicate (h - 1).toNat (1 : Int) ++ (if h = l then [] else [0]))) = some c := e
    split at e
    · cases e
    · cases e
      rw [List.length_append, List.length_replicate]
      split
      · show _ + 0 ≤ _
        omega
      · show _ + 1 ≤ _
        omega
/-- what comes behind is put behind -/
def joinO (cs : List Int) : Option (List Int) → Option (List Int)
  | none => none
  | some r => some (cs ++ r)
theorem joinO_nil (o : Option (List Int)) : joinO [] o = o := by cases o <;> rfl
theorem dueF_cons {r : Ru} {t h : Int} {hs c : List Int} (e : cwL h (limR r t) = some c) : dueF r t (h :: hs) = joinO c (dueF r (max t h) hs) := by
  show (match cwL h (limR r t) with
    | none => none
    | some c => match dueF r (max t h) hs with
      | none => none
      | some cs => some (c ++ cs)) = _
  rw [e]
  cases dueF r (max t h) hs <;> rfl
theorem dueF_none {r : Ru} {t h : Int} {hs : List Int} (e : cwL h (limR r t) = none) : dueF r t (h :: hs) = none := by
  show (match cwL h (limR r t) with
    | none => none
    | some c => match dueF r (max t h) hs with
      | none => none
      | some cs => some (c ++ cs)) = _
  rw [e]
theorem joinO_join {a b : List Int} {o : Option (List Int)} : joinO a (joinO b o) = joinO (a ++ b) o := by
  cases o with
  | none => rfl
  | some r => exact congrArg some (List.append_assoc ..).symm
section
variable {P : Program} {w : World} {K : PySem.W.Frag} {mg : Str → Option Value} {base : Heap} {CX : CXT} {f : Addr} {fd : FuncData}
theorem H_coins_of (bl : Bl mg) (nx : NoY CX) (G_check_heights : Has P w K mg base CX "check_heights" 4 ["heights"] [] (spP K 1 R_check_heights)) (G_check_rule : Has P w K mg base CX "check_rule" 3 ["rule"] [] (spP K 1 R_check_rule))
    (G_limit_of : Has P w K mg base CX "limit_of" 1 ["rule", "top"] [] (spP K 2 R_limit_of)) (G_coins_within : Has P w K mg base CX "coins_within" 1 ["height", "limit"] [] (spP K 2 R_coins_within))
    (F : FunD K "coins_of" "coins_of" (defArgs s_coins_of) (defBody s_coins_of) (defScope s_coins_of) [] [] f fd) (hm : mg "coins_of" = some (.ref f)) :
    Has P w K mg base CX "coins_of" 5 ["heights", "rule"] [] (spP K 2 R_coins_of) := by
  refine has_mk F hm sc_coins_of (spP_len rfl) (fun _ _ _ _ _ _ us hl => match us, hl with | [_, _], _ => rfl) fun cdv A outer s H vs Q E hr h => ?_
  obtain ⟨B, ds, z, x, hl, hd, ⟨b, ns, b2, r, rfl, hns, ok, hlen, rfl⟩, q⟩ := h
  match vs, hd with
  | [v1, v2], .cons h1 (.cons h2 .nil) =>
    refine ⟨_, (pss_cons (ps_expr (pe_has G_check_heights (hr.mono (by decide)) (by rfl) (pa_cons (pv 0) pa_nil) (nx _))) (pss_cons (ps_expr (pe_has G_check_rule (hr.mono (by decide)) (by rfl) (pa_cons (pv 1) pa_nil) (nx _))) (pss_cons (ps_set (i := 2) sc_coins_of.nd rfl (by first | exact .inl rfl | exact .inr rfl) (pe_lst pa_nil)) (pss_cons (ps_set (i := 3) sc_coins_of.nd rfl (by first | exact .inl rfl | exact .inr rfl) pe_int) (pss_cons (ps_for PassesOwn.never rfl (pi_row (pv 0)) (pg_name (i := 4) sc_coins_of.nd rfl (by first | exact .inl rfl | exact .inr rfl)) (pss_cons (ps_set (i := 5) sc_coins_of.nd rfl (by first | exact .inl rfl | exact .inr rfl) (pe_has G_coins_within (hr.mono (by decide)) (by rfl) (pa_cons (pv 4) (pa_cons (pe_has G_limit_of (hr.mono (by decide)) (by rfl) (pa_cons (pv 1) (pa_cons (pv 3) pa_nil)) (nx _)) pa_nil)) (nx _))) (pss_cons (ps_if (pt_cmpR op_isN (pv 5) pe_non (nomark _)) (pss_one (ps_ret pe_non)) pss_nil) (pss_cons (ps_expr (pe_bm PySem.F.plainAttrs_list PySem.F.slot_list_extend PySem.F.type_list_extend mt_extA (pv 2) (pa_cons (pv 5) pa_nil))) (pss_one (ps_set (i := 3) sc_coins_of.nd rfl (by first | exact .inl rfl | exact .inr rfl) (pe_callB (call_max2 rfl) (by rfl) bl.max bb_max (pa_cons (pv 3) (pa_cons (pv 4) pa_nil))))))))) (pss_one (ps_ret (pe_callTy call_tuple_of (by rfl) bl.tuple bb_tuple (pa_cons (pv 2) pa_nil))))))))), ?_⟩
    refine qd_drop x (u_check_heights (d_var rfl h1) fun c hc => (hns c hc).1) fun H1 e1 => qd_drop (x.trans e1) (u_check_rule (d_var rfl h2) ok) fun H2 e2 => ?_
    have e12 := e1.trans e2
    refine qd_asgL (K := K) (x.trans e12) (dl_lst da_nil (Nat.zero_le _)) fun lt xs G3 H3 l0 l1 g3 hlt hxs => ?_
    cases hxs
    have lt0 : H lt = none := fresh_back e12 l1
    have g3' := (Gr.ex x e12).trans g3
    refine qd_asg (K := K) (d := .int 0) g3.g2 d_int fun v G4 H4 g4 hv => ?_
    rw [hv.int_of]
    have g4' := g3'.trans g4
    have lt4 := g4.sep lt l0 (by rw [hlt]; exact fun z => nomatch z)
    refine qd_for (K := K) (G := B) (b := b) (ds := ns.map .int) (j := 0) (g4'.hg.trans g4'.g2) h1 rfl (fun i σ' H' => ∃ (t : Int) (a4 a5 : Option V), σ' = [some v1, some v2, some (.ref lt), some (.int t), a4, a5] ∧ ∃ (G : Hp) (ys : List V) (cs : List Int), Gr B H G H' ∧ G lt = none ∧ H' lt = some (.lst ys) ∧ DpAll K G ys (cs.map .int) ∧ cs.length ≤ i * 100 ∧ dueF r 0 ns = joinO cs (dueF r t (ns.drop i)))
      ⟨0, _, _, rfl, G4, [], [], g4', lt4, g4.h12 _ _ hlt, .nil, Nat.zero_le _, (joinO_nil _).symm⟩ ?_ ?_ ?_
    · rintro i σ' H' _ ⟨t, a4, a5, rfl, G, ys, cs, g, _⟩
      exact g.hg.trans g.g2
    · rintro i d y σ' H' hi hy ⟨t, a4, a5, rfl, G, ys, cs, g, gl, hl', hys, hcl, hdue⟩
      rw [List.getElem?_map] at hi
      obtain ⟨h, hih, rfl⟩ := Option.map_eq_some_iff.mp hi
      obtain ⟨hi1, hi2⟩ := List.getElem?_eq_some_iff.mp hih
      have hb := hns h (List.mem_of_getElem? hih)
      rw [List.drop_eq_getElem_cons hi1, hi2] at hdue
      rw [hy.int_of]
      have h2G := dp_mono g.hg h2
      refine qd_asg (K := K) g.g2 (u_coins_within (h := h) (d_var rfl (.int h)) (u_limit_of (t := t) (d_var rfl h2G) (d_var rfl (.int t)) ok) hb.1 (by omega)) fun vc G5 H5 g5 hvc => ?_
      have g5' := g.trans g5
      cases hc : cwL h (limR r t) with
      | none =>
        rw [hc] at hvc
        refine qd_when (b := true) g5.g2 (t_test (K := K) (d_op (d_var rfl hvc) d_non fun _ _ => rd_isN)) (fun _ H6 e6 => ?_) fun z => Bool.noConfusion z
        rw [dueF_none hc] at hdue
        rw [hdue] at q
        exact sd_ret (K := K) (g5.g2.trans e6) d_non fun v G7 H7 g7 hv => q v G7 H7 (g5'.trans ((Gr.ex g5.g2 e6).trans g7)) hv
      | some c =>
        rw [hc] at hvc
        rw [dueF_cons hc, joinO_join] at hdue
        have hcn := cwL_len hc hb.1 hb.2
        refine qd_no g5.g2 (t_test (K := K) (d_op (d := .tuple (c.map .int)) (d_var rfl hvc) d_non fun _ _ => rd_isN)) fun H6 e6 => ?_
        have gl5 := g5.sep lt gl (by rw [hl']; exact fun z => nomatch z)
        have hl6 : H6 lt = some (.lst ys) := e6 _ _ (g5.h12 _ _ hl')
        have g6 := g5'.trans (Gr.ex g5.g2 e6)
        have hyl : ys.length ≤ i * 100 := by
          have e := hys.length
          rw [List.length_map] at e
          omega
        refine qd_extA (K := K) (j := 2) (ds := c.map .int) g6.g2 hl6 gl5 rfl (d_var rfl hvc) (by rw [List.length_map]; omega) fun zs G7 H7 g7 gl7 hl7 hzs => ?_
        have g7' := gr_mut (o := .lst (ys ++ zs)) (g6.trans g7) gl7 lt0
        refine sd_asg (K := K) g7'.g2 (d_cb (da_cons (d_var rfl (.int t)) (da_cons (d_var rfl (.int h)) da_nil)) fun _ _ => rcd_max2) fun v G8 H8 g8 hv => ?_
        rw [hv.int_of]
        have gl8 := g8.sep lt gl7 (by rw [upd_same]; exact fun z => nomatch z)
        refine ⟨max t h, _, _, rfl, G8, ys ++ zs, cs ++ c, g7'.trans g8, gl8, g8.h12 _ _ upd_same, ?_, by rw [List.length_append]; omega, hdue⟩
        rw [List.map_append]
        exact (dpa_mono ((g5.hg.trans g7.hg).trans g8.hg) hys).append (dpa_mono g8.hg hzs)
    · rintro σ' H' ⟨t, a4, a5, rfl, G, ys, cs, g, gl, hl', hys, hcl, hdue⟩
      rw [List.length_map, List.drop_length] at hdue
      rw [hdue] at q
      have gfz := gr_freeze gl lt0 g hl'
      refine sd_ret (K := K) gfz.g2 (d_cb (da_cons (d_var rfl (dp_freeze gl hys)) da_nil) fun _ _ => rcd_tuple (b := true)) fun v G7 H7 g7 hv => q v G7 H7 (gfz.trans g7) ?_
      show Dp K G7 v (.tuple ((cs ++ []).map .int))
      rw [List.append_nil]
      exact hv
end
end Tk
end

section
set_option Elab.async false
set_option linter.all false
set_option maxRecDepth 100000
set_option maxHeartbeats 400000
/-! k04, what the program raises: Short, and grown. -/
namespace Tk
open PySem PySem.Spec PyProof.Rows L2 Evl Tb
abbrev s_Short___init : Stmt := inClass (topS 5) 0
abbrev n_Short___init : List Str := ["self", "index"]
theorem sc_Short___init : FnScope n_Short___init ["self", "index"] (defScope s_Short___init) := ⟨rfl, rfl, rfl, by decide +kernel, rfl, by decide +kernel, by decide +kernel⟩

abbrev s_Spare___init : Stmt := inClass (topS 6) 0
abbrev n_Spare___init : List Str := ["self", "index"]
theorem sc_Spare___init : FnScope n_Spare___init ["self", "index"] (defScope s_Spare___init) := ⟨rfl, rfl, rfl, by decide +kernel, rfl, by decide +kernel, by decide +kernel⟩

abbrev s_grown : Stmt := topS 26
abbrev n_grown : List Str := ["coins", "at", "limit", "height", "place", "coin"]
theorem sc_grown : FnScope n_grown ["coins", "at", "limit"] (defScope s_grown) := ⟨rfl, rfl, rfl, by decide +kernel, rfl, by decide +kernel, by decide +kernel⟩

/-- a class of errors with one field, as the top leaves it -/
structure ExK (P : Program) (w : World) (K : PySem.W.Frag) (mg : Str → Option Value) (base : Heap) (CX : CXT) (x f : Str) (C fI : Addr) (fd : FuncData) : Prop where
  T : OexC K C
  no : PySem.W.findIn K (.ref C) f = some none
  iC : PySem.W.findIn K (.ref C) "__init__" = some (some (.ref fI))
  tI : PySem.W.typeIn K (.ref fI) = some (.type "function")
  F : FnOk P w K mg base CX 1 fI fd ["self", f] (spInit1 K f)
  b : Binds K fd ["self", f] []
  gC : mg x = some (.ref C)
def opnF (lim : Option Int) (h : Int) : Bool := match lim with
  | none => true
  | some l => decide (h < l)
/-- the height and how many coins, none where the coins are too few -/
def groF (lim : Option Int) : Int → List Int → Option (Int × Nat)
  | h, [] => if opnF lim h = true then none else some (h, 0)
  | h, c :: cs => if opnF lim h = true then (if c = 0 then some (h, 1) else (groF lim (h + 1) cs).map fun p => (p.1, p.2 + 1)) else some (h, 0)
def spGrown (K : PySem.W.Frag) (C : Addr) : Sp := fun vs H Q E => ∃ (B : Hp) (v1 v3 : V) (b : Bool) (cs : List Int) (at_ : Nat) (lim : Option Int), vs = [v1, .int (at_ : Nat), v3] ∧ Ex B H ∧ Dp K B v1 (rows b (cs.map .int)) ∧ Dp K B v3 (optD lim) ∧ at_ ≤ cs.length ∧
  (∀ (h : Int) (n : Nat), groF lim 1 (cs.drop at_) = some (h, n) → ∀ v G H', Gr B H G H' → Dp K G v (.tuple [.int h, .int ((at_ + n : Nat) : Int)]) → Q v H') ∧
  (groF lim 1 (cs.drop at_) = none → ∀ d H', Ex H H' → H d = none → H' d = some (.xd [("index", .int (cs.length : Nat))]) → E (.ref C) (some d) H')
section
variable {P : Program} {w : World} {K : PySem.W.Frag} {mg : Str → Option Value} {base : Heap} {CX : CXT} {f : Addr} {fd : FuncData}
theorem H_Short_init (F : FunD K "__init__" "Short.__init__" (defArgs s_Short___init) (defBody s_Short___init) (defScope s_Short___init) [] [] f fd) : FnOk P w K mg base CX 1 f fd ["self", "index"] (spInit1 K "index") ∧ Binds K fd ["self", "index"] [] := by
  refine ⟨F.ok sc_Short___init (fun vs H Q E h => by obtain ⟨a, C, y, rfl, _⟩ := h; rfl) fun cdv A outer s H vs Q E hr h => ?_, F.bindsN fun _ _ _ _ _ _ us hl => match us, hl with | [_, _], _ => rfl⟩
  obtain ⟨a, C, y, rfl, T, hno, ha, q⟩ := h
  exact ⟨_, (pss_one (ps_ost (pv 0) (pv 1))).nox, _, rfl, _, rfl, a, C, rfl, T, hno, .inl ⟨ha, fun dx n ne => q dx n ne⟩⟩
theorem H_grown {C fI : Addr} {fdI : FuncData} (bl : Bl mg) (X_Short : ExK P w K mg base (L2.CX P w) "Short" "index" C fI fdI)
    (F : FunD K "grown" "grown" (defArgs s_grown) (defBody s_grown) (defScope s_grown) [] [] f fd) (hm : mg "grown" = some (.ref f)) :
    Has P w K mg base (L2.CX P w) "grown" 3 ["coins", "at", "limit"] [] (spGrown K C) := by
  refine has_mkX F hm sc_grown (fun vs H Q E h => by obtain ⟨_, _, _, _, _, _, _, rfl, _⟩ := h; rfl) (fun _ _ _ _ _ _ us hl => match us, hl with | [_, _, _], _ => rfl) fun cdv A outer s H vs Q E hr h => ?_
  obtain ⟨B, v1, v3, b, cs, n0, lim, rfl, x, h1, h3, hn0, q, qE⟩ := h
  have nx : NoY (L2.CX P w) := noYX
  refine ⟨_, (pss_cons (ps_set (i := 3) sc_grown.nd rfl (by first | exact .inl rfl | exact .inr rfl) pe_int) (pss_cons (ps_set (i := 4) sc_grown.nd rfl (by first | exact .inl rfl | exact .inr rfl) (pv 1)) (pss_cons (ps_while (passes_of rfl) (PW.pt (pw_or (pt_cmpR op_isN (pv 2) pe_non (nomark _)) (pw_or1 (pt_cmpR op_lt (pv 3) (pv 2) (nomark _))))) (pss_cons (ps_if (pt_cmpR op_eq (pv 4) (pe_callB call_len_seq (by rfl) bl.len bb_len (pa_cons (pv 0) pa_nil)) (nomark _)) (pss_one (ps_raise rfl (takes_of rfl rfl rfl rfl) (pmk_oex X_Short.T X_Short.iC X_Short.tI X_Short.F (hr.mono (by decide)) X_Short.b .nil (nx _) (by rfl) X_Short.gC (pa_cons (pv 4) pa_nil)))) pss_nil) (pss_cons (ps_set (i := 5) sc_grown.nd rfl (by first | exact .inl rfl | exact .inr rfl) (pe_ix ix_row (pv 0) (pv 4) (fun _ _ => rfl))) (pss_cons (ps_aug (i := 4) sc_grown.nd rfl (by first | exact .inl rfl | exact .inr rfl) pe_int ip_add) (pss_cons (ps_if (pt_cmpR op_eq (pv 5) pe_int (nomark _)) (pss_one ps_break) pss_nil) (pss_one (ps_aug (i := 3) sc_grown.nd rfl (by first | exact .inl rfl | exact .inr rfl) pe_int ip_add))))))) (pss_one (ps_ret (pe_tup (pa_cons (pv 3) (pa_cons (pv 4) pa_nil)))))))), ?_⟩
  refine qd_asg (K := K) (d := .int 1) x d_int fun va G1 H1 g1 hva => ?_
  rw [hva.int_of]
  refine qd_asg (K := K) (d := .int (n0 : Nat)) g1.g2 (d_var rfl (.int _)) fun vb G2 H2 g2 hvb => ?_
  rw [hvb.int_of]
  have e2 : Ex H H2 := g1.h12.trans g2.h12
  refine qd_while (fun m σ' H' => ∃ (h : Int) (j : Nat) (a5 : Option V), σ' = [some v1, some (.int (n0 : Nat)), some v3, some (.int h), some (.int ((n0 + j : Nat) : Int)), a5] ∧ Ex H H' ∧ n0 + j ≤ cs.length ∧ m = cs.length - (n0 + j) ∧ groF lim 1 (cs.drop n0) = (groF lim h (cs.drop (n0 + j))).map fun p => (p.1, p.2 + j))
    (cs.length - n0) ⟨1, 0, _, rfl, e2, hn0, rfl, by rw [Nat.add_zero]; cases groF lim 1 (cs.drop n0) <;> rfl⟩ ?_
  rintro m σ' H' ⟨h, j, a5, rfl, e, hj, rfl, hg⟩
  have xB := x.trans e
  have fin : ∀ (h : Int) (k : Nat), groF lim 1 (cs.drop n0) = some (h, k) → ∀ (a5 : Option V) H5, Ex H H5 → tRet (tTup (tCons (tVar 3) (tCons (tVar 4) tNil))) { nx := fun _ H' => Q .non H', rt := Q } [some v1, some (.int (n0 : Nat)), some v3, some (.int h), some (.int ((n0 + k : Nat) : Int)), a5] H5 := fun h k hk a5 H5 e5 =>
    sd_ret (K := K) (x.trans e5) (d_tup (da_cons (d_var rfl (.int h)) (da_cons (d_var rfl (.int _)) da_nil)) (by show 2 ≤ 100000; decide)) fun v G H6 g6 hv => q h k hk v G H6 ((Gr.ex x e5).trans g6) hv
  have key : EvT (tOr (tTest (tOp (fun x y H Q => y = .non ∧ Q (.bl (decide (x = .non))) H) (tVar 2) (tC .non))) (tTest (tOp (rI0 fun i j => .bl (decide (i < j))) (tVar 3) (tVar 2)))) [some v1, some (.int (n0 : Nat)), some v3, some (.int h), some (.int ((n0 + j : Nat) : Int)), a5] B (opnF lim h) := by
    cases lim with
    | none => exact et_is (et_or (b := true) (t_test (K := K) (d_op (d_var rfl h3) d_non fun _ _ => rd_isN)) fun z => Bool.noConfusion z) rfl
    | some l => exact et_is (et_or (t_test (K := K) (d_op (d_var rfl h3) d_non fun _ _ => rd_isN)) fun _ => t_test (K := K) (d_op (d_var rfl (.int h)) (d_var rfl h3) fun _ _ => rd_cmp)) rfl
  refine ⟨opnF lim h, B, xB, key, fun hc H5 e5 => ?_, fun hc H5 e5 => ?_⟩
  · have e15 := e.trans e5
    by_cases c : n0 + j = cs.length
    · refine ⟨fun _ _ => False, fun _ _ z => z.elim, ?_⟩
      refine qd_when (b := true) (x.trans e15) (et_is (t_test (K := K) (d_op (d_var rfl (.int _)) (d_cb (da_cons (d_var rfl h1) da_nil) fun _ _ => rcd_len) fun _ _ => rd_eq rfl)) (decide_eq_true (by rw [List.length_map, c]))) (fun _ H6 e6 => ?_) fun z => Bool.noConfusion z
      have hnone : groF lim 1 (cs.drop n0) = none := by
        rw [hg, c, List.drop_length, groF, if_pos hc]
        rfl
      have e16 := e15.trans e6
      refine mk_one X_Short.T X_Short.no (x.trans e16) (d_var rfl (.int _)) fun d H7 e7 hd hx => qE hnone d H7 (e16.trans e7) (fresh_back e16 hd) (by rw [← c]; exact hx)
    · have hlt : n0 + j < cs.length := by omega
      have hdrop : cs.drop (n0 + j) = cs[n0 + j] :: cs.drop (n0 + j + 1) := List.drop_eq_getElem_cons hlt
      rw [hdrop, groF, if_pos hc] at hg
      generalize hcc : cs[n0 + j] = cc at *
      refine ⟨fun σ' H' => ∃ (a5 : Option V), σ' = [some v1, some (.int (n0 : Nat)), some v3, some (.int (h + 1)), some (.int ((n0 + (j + 1) : Nat) : Int)), a5] ∧ Ex H H' ∧ cc ≠ 0, fun σ2 H2 ⟨a5, e1, e2, e3⟩ => ⟨cs.length - (n0 + (j + 1)), by omega, h + 1, j + 1, a5, e1, e2, by omega, rfl, ?_⟩, ?_⟩
      · rw [hg, if_neg e3]
        show ((groF lim (h + 1) (cs.drop (n0 + j + 1))).map _).map _ = _
        rw [Option.map_map]
        congr 1
        funext p
        show (p.1, p.2 + 1 + j) = (p.1, p.2 + (j + 1))
        congr 1
        omega
      · refine qd_no (x.trans e15) (et_is (t_test (K := K) (d_op (d_var rfl (.int _)) (d_cb (da_cons (d_var rfl h1) da_nil) fun _ _ => rcd_len) fun _ _ => rd_eq rfl)) (decide_eq_false (by rw [List.length_map]; omega))) fun H6 e6 => ?_
        have e16 := e15.trans e6
        refine qd_asg (K := K) (d := .int cc) (x.trans e16) (d_op (d_var rfl h1) (d_var rfl (.int _)) fun _ _ => rd_ix (atI_nat (j := n0 + j) (by rw [List.getElem?_map, List.getElem?_eq_getElem hlt, hcc]; rfl))) fun vc G7 H7 g7 hvc => ?_
        rw [hvc.int_of]
        have e17 := e16.trans g7.h12
        refine ⟨_, rfl, ((n0 + j : Nat) : Int), 1, rfl, rfl, ?_⟩
        have ep : ((n0 + j : Nat) : Int) + 1 = ((n0 + (j + 1) : Nat) : Int) := by omega
        have ev : V.int ((fun i j : Int => i + j) ((n0 + j : Nat) : Int) 1) = .int ((n0 + (j + 1) : Nat) : Int) := congrArg V.int ep
        rw [ev]
        refine qd_if (b := decide (cc = 0)) (x.trans e17) (t_test (K := K) (d_op (d_var rfl (.int cc)) d_int fun _ _ => rd_eq rfl)) (fun hz H8 e8 => ?_) fun hz H8 e8 => ?_
        · have hz' := of_decide_eq_true hz
          rw [if_pos hz'] at hg
          exact fin h (j + 1) (by rw [hg]; show some (h, 1 + j) = some (h, j + 1); rw [Nat.add_comm]) _ H8 (e17.trans e8)
        · exact ⟨_, rfl, h, 1, rfl, rfl, _, rfl, e17.trans e8, of_decide_eq_false hz⟩
  · rw [show groF lim h (cs.drop (n0 + j)) = some (h, 0) by
      cases cs.drop (n0 + j) with
      | nil => rw [groF, if_neg (by rw [hc]; exact Bool.false_ne_true)]
      | cons a l => rw [groF, if_neg (by rw [hc]; exact Bool.false_ne_true)]] at hg
    exact fin h j (by rw [hg]; show some (h, 0 + j) = _; rw [Nat.zero_add]) a5 H5 (e.trans e5)
end
end Tk
end

section
set_option Elab.async false
set_option linter.all false
set_option maxRecDepth 100000
set_option maxHeartbeats 400000
/-! k04, toss. -/
namespace Tk
open PySem PySem.Spec PyProof.Rows L2 Evl Tb
abbrev s_toss : Stmt := topS 16
abbrev n_toss : List Str := ["coins", "at", "rule", "top"]
theorem sc_toss : FnScope n_toss ["coins", "at", "rule", "top"] (defScope s_toss) := ⟨rfl, rfl, rfl, by decide +kernel, rfl, by decide +kernel, by decide +kernel⟩

def R_toss (ds : List PyData) (z : PyData) : Prop := ∃ (b : Bool) (cs : List Int) (n0 : Nat) (b2 : Bool) (r : Ru) (t h : Int) (n : Nat), ds = [rows b (cs.map .int), .int (n0 : Nat), ruD b2 r, .int t] ∧ (∀ c ∈ cs, c = 0 ∨ c = 1) ∧ n0 ≤ cs.length ∧ okR r ∧ 0 ≤ t ∧
  groF (limR r t) 1 (cs.drop n0) = some (h, n) ∧ z = .tuple [.int h, .int ((n0 + n : Nat) : Int)]
section
variable {K : PySem.W.Frag} {σ : L2.St} {B : Hp} {te tf tg th : TE} {E : XK} {b b2 : Bool} {r : Ru} {cs : List Int} {n0 n : Nat} {h t : Int} {lim : Option Int} {C : Addr}
theorem d_grown (e1 : EvD K te σ B (rows b (cs.map .int))) (e2 : EvD K tf σ B (.int (n0 : Nat))) (e3 : EvD K tg σ B (optD lim)) (hn : n0 ≤ cs.length) (hg : groF lim 1 (cs.drop n0) = some (h, n)) : EvD K (tCall (spGrown K C) [] E (tCons te (tCons tf (tCons tg tNil)))) σ B (.tuple [.int h, .int ((n0 + n : Nat) : Int)]) := fun H1 x Q q =>
  (da_cons e1 (da_cons e2 (da_cons e3 da_nil))) H1 x _ fun vs G H2 g hd => by
    match vs, hd with
    | [v1, v2, v3], .cons h1 (.cons h2 (.cons h3 .nil)) =>
      have e := h2.int_of
      subst e
      exact ⟨G, v1, v3, b, cs, n0, lim, rfl, g.g2, h1, h3, hn, fun h' k hk v G' H' g' hv => by
        rw [hg] at hk
        cases hk
        exact q v G' H' (g.trans g') hv, fun z => by rw [hg] at z; cases z⟩
theorem u_toss (e1 : EvD K te σ B (rows b (cs.map .int))) (e2 : EvD K tf σ B (.int (n0 : Nat))) (e3 : EvD K tg σ B (ruD b2 r)) (e4 : EvD K th σ B (.int t)) (hc : ∀ c ∈ cs, c = 0 ∨ c = 1) (hn : n0 ≤ cs.length) (ok : okR r) (ht : 0 ≤ t) (hg : groF (limR r t) 1 (cs.drop n0) = some (h, n)) :
    EvD K (tCall (spP K 4 R_toss) [] E (tCons te (tCons tf (tCons tg (tCons th tNil))))) σ B (.tuple [.int h, .int ((n0 + n : Nat) : Int)]) := d_call (da_cons e1 (da_cons e2 (da_cons e3 (da_cons e4 da_nil)))) (sp_P rfl ⟨b, cs, n0, b2, r, t, h, n, rfl, hc, hn, ok, ht, hg, rfl⟩)
end
section
variable {P : Program} {w : World} {K : PySem.W.Frag} {mg : Str → Option Value} {base : Heap} {f : Addr} {fd : FuncData}
theorem H_toss {C : Addr} (bl : Bl mg) (G_check_coins : Has P w K mg base (L2.CX P w) "check_coins" 4 ["coins"] [] (spP K 1 R_check_coins)) (G_check_number3 : Has P w K mg base (L2.CX P w) "check_number" 2 ["value", "least", "greatest"] [] (spP K 3 R_check_number))
    (G_most : Has P w K mg base (L2.CX P w) "most" 4 ["rule", "top"] [] (spP K 2 R_most)) (G_grown : Has P w K mg base (L2.CX P w) "grown" 3 ["coins", "at", "limit"] [] (spGrown K C))
    (F : FunD K "toss" "toss" (defArgs s_toss) (defBody s_toss) (defScope s_toss) [] [] f fd) (hm : mg "toss" = some (.ref f)) :
    Has P w K mg base (L2.CX P w) "toss" 5 ["coins", "at", "rule", "top"] [] (spP K 4 R_toss) := by
  have nx : NoY (L2.CX P w) := noYX
  refine has_mk F hm sc_toss (spP_len rfl) (fun _ _ _ _ _ _ us hl => match us, hl with | [_, _, _, _], _ => rfl) fun cdv A outer s H vs Q E hr h => ?_
  obtain ⟨B, ds, z, x, hl, hd, ⟨b, cs, n0, b2, r, t, h, n, rfl, hc, hn, ok, ht, hg, rfl⟩, q⟩ := h
  match vs, hd with
  | [v1, v2, v3, v4], .cons h1 (.cons h2 (.cons h3 (.cons h4 .nil))) =>
    refine ⟨_, (pss_cons (ps_expr (pe_has G_check_coins (hr.mono (by decide)) (by rfl) (pa_cons (pv 0) pa_nil) (nx _))) (pss_cons (ps_expr (pe_has G_check_number3 (hr.mono (by decide)) (by rfl) (pa_cons (pv 1) (pa_cons pe_int (pa_cons (pe_callB call_len_seq (by rfl) bl.len bb_len (pa_cons (pv 0) pa_nil)) pa_nil))) (nx _))) (pss_one (ps_ret (pe_has G_grown (hr.mono (by decide)) (by rfl) (pa_cons (pv 0) (pa_cons (pv 1) (pa_cons (pe_has G_most (hr.mono (by decide)) (by rfl) (pa_cons (pv 2) (pa_cons (pv 3) pa_nil)) (nx _)) pa_nil))) (nx _)))))), ?_⟩
    refine qd_drop x (u_check_coins (d_var rfl h1) hc) fun H1 e1 => qd_drop (x.trans e1) (u_check_number3 (g := ((cs.map PyData.int).length : Nat)) (d_var rfl h2) d_int (d_cb (da_cons (d_var rfl h1) da_nil) fun _ _ => rcd_len) (by omega) (by rw [List.length_map]; omega)) fun H2 e2 => ?_
    exact sd_ret ((x.trans e1).trans e2) (d_grown (d_var rfl h1) (d_var rfl h2) (u_most (d_var rfl h3) (d_var rfl h4) ok ht) hn hg) fun v G H3 g hv => q v G H3 ((Gr.ex x (e1.trans e2)).trans g) hv
end
end Tk
end

section
set_option Elab.async false
set_option linter.all false
set_option maxRecDepth 100000
set_option maxHeartbeats 400000
/-! k04, heights_of. -/
namespace Tk
open PySem PySem.Spec PyProof.Rows L2 Evl Tb
abbrev s_heights_of : Stmt := topS 19
abbrev n_heights_of : List Str := ["coins", "rule", "told", "top", "place", "height"]
theorem sc_heights_of : FnScope n_heights_of ["coins", "rule"] (defScope s_heights_of) := ⟨rfl, rfl, rfl, by decide +kernel, rfl, by decide +kernel, by decide +kernel⟩

theorem H_Spare_init {P : Program} {w : World} {K : PySem.W.Frag} {mg : Str → Option Value} {base : Heap} {CX : CXT} {f : Addr} {fd : FuncData} (F : FunD K "__init__" "Spare.__init__" (defArgs s_Spare___init) (defBody s_Spare___init) (defScope s_Spare___init) [] [] f fd) :
    FnOk P w K mg base CX 1 f fd ["self", "index"] (spInit1 K "index") ∧ Binds K fd ["self", "index"] [] := by
  refine ⟨F.ok sc_Spare___init (fun vs H Q E h => by obtain ⟨a, C, y, rfl, _⟩ := h; rfl) fun cdv A outer s H vs Q E hr h => ?_, F.bindsN fun _ _ _ _ _ _ us hl => match us, hl with | [_, _], _ => rfl⟩
  obtain ⟨a, C, y, rfl, T, hno, ha, q⟩ := h
  exact ⟨_, (pss_one (ps_ost (pv 0) (pv 1))).nox, _, rfl, _, rfl, a, C, rfl, T, hno, .inl ⟨ha, fun dx n ne => q dx n ne⟩⟩
/-- the heights of coins, none where the last tower is not ended -/
def rdF (r : Ru) : Nat → Int → List Int → Option (List Int)
  | 0, _, _ => some []
  | n + 1, t, cs => if cs = [] then some [] else match groF (limR r t) 1 cs with
    | none => none
    | some p => (rdF r n (max t p.1) (cs.drop p.2)).map (p.1 :: ·)
theorem groF_facts {lim : Option Int} : ∀ {cs : List Int} {h h' : Int} {k : Nat}, groF lim h cs = some (h', k) → h ≤ h' ∧ k ≤ cs.length ∧ (opnF lim h = true → 1 ≤ k)
  | [], h, h', k, e => by
    rw [groF] at e
    split at e
    · cases e
    · rename_i c
      cases e
      exact ⟨Int.le_refl _, Nat.le_refl _, fun z => absurd z c⟩
  | c :: cs, h, h', k, e => by
    rw [groF] at e
    split at e
    · split at e
      · cases e
        exact ⟨Int.le_refl _, by rw [List.length_cons]; omega, fun _ => Nat.le_refl _⟩
      · cases q : groF lim (h + 1) cs with
        | none =>
          rw [q] at e
          cases e
        | some p =>
          rw [q] at e
          cases e
          obtain ⟨h1, h2, _⟩ := groF_facts q
          exact ⟨by omega, by rw [List.length_cons]; omega, fun _ => by omega⟩
    · rename_i c
      cases e
      exact ⟨Int.le_refl _, Nat.zero_le _, fun z => absurd z c⟩
theorem lim_two {r : Ru} {t : Int} (ok : okR r) (ht : 1 ≤ t) (h : limR r 1 ≠ some 1) : opnF (limR r t) 1 = true := by
  cases r with
  | free => rfl
  | step => exact decide_eq_true (by show 1 < t + 1; omega)
  | cap n =>
    have h1 := ok.1
    have h2 : n ≠ 1 := fun z => h (by rw [z]; rfl)
    exact decide_eq_true (by show 1 < n; omega)
  | stepc n =>
    have h1 := ok.1
    have h2 : n ≠ 1 := fun z => h (by rw [z]; rfl)
    exact decide_eq_true (by show 1 < min (t + 1) n; omega)
theorem eqS_opt (o : Option Int) (i : Int) : eqS (optD o) (.int i) = decide (o = some i) := by
  cases o with
  | none => rfl
  | some k =>
    show decide (k = i) = decide (some k = some i)
    exact decide_eq_decide.mpr ⟨fun z => by rw [z], fun z => Option.some.inj z⟩
theorem scal_opt (o : Option Int) (i : Int) : scalD (optD o) (.int i) = true := by cases o <;> rfl
theorem qd_callX {K : PySem.W.Frag} {σ : L2.St} {B H : Hp} {ta : TA} {ds : List PyData} {sp : Sp} {E : XK} {g : TG} {tz : TS} {D : Ends} (x : Ex B H) (h : EvDA K ta σ B ds) (k : ∀ vs G H1, Gr B H G H1 → DpAll K G vs ds → sp (vs ++ []) H1 (fun v H2 => g v σ H2 fun σ2 H3 => tz D σ2 H3) E) :
    tSeq (tAsg (tCall sp [] E ta) g) tz D σ H := h H x _ fun vs G H1 gg hd => k vs G H1 gg hd
def spHof (K : PySem.W.Frag) (CS CP : Addr) : Sp := fun vs H Q E => ∃ (B : Hp) (v1 v2 : V) (b b2 : Bool) (cs : List Int) (r : Ru), vs = [v1, v2] ∧ Ex B H ∧ Dp K B v1 (rows b (cs.map .int)) ∧ Dp K B v2 (ruD b2 r) ∧ (∀ c ∈ cs, c = 0 ∨ c = 1) ∧ okR r ∧ cs.length ≤ 20000 ∧
  (cs ≠ [] ∧ limR r 1 = some 1 → ∀ d H', Ex H H' → H d = none → H' d = some (.xd [("index", .int 0)]) → E (.ref CP) (some d) H') ∧
  (¬ (cs ≠ [] ∧ limR r 1 = some 1) → (∀ l, rdF r (2 * cs.length + 1) 0 cs = some l → ∀ v G H', Gr B H G H' → Dp K G v (.list (l.map .int)) → Q v H') ∧
    (rdF r (2 * cs.length + 1) 0 cs = none → ∀ d H', Ex H H' → H d = none → H' d = some (.xd [("index", .int (cs.length : Nat))]) → E (.ref CS) (some d) H'))
section
variable {P : Program} {w : World} {K : PySem.W.Frag} {mg : Str → Option Value} {base : Heap} {f : Addr} {fd : FuncData}
theorem H_heights_of {CS CP fI : Addr} {fdI : FuncData} (bl : Bl mg) (X_Spare : ExK P w K mg base (L2.CX P w) "Spare" "index" CP fI fdI)
    (G_check_coins : Has P w K mg base (L2.CX P w) "check_coins" 4 ["coins"] [] (spP K 1 R_check_coins)) (G_check_rule : Has P w K mg base (L2.CX P w) "check_rule" 3 ["rule"] [] (spP K 1 R_check_rule))
    (G_limit_of : Has P w K mg base (L2.CX P w) "limit_of" 1 ["rule", "top"] [] (spP K 2 R_limit_of)) (G_grown : Has P w K mg base (L2.CX P w) "grown" 3 ["coins", "at", "limit"] [] (spGrown K CS))
    (F : FunD K "heights_of" "heights_of" (defArgs s_heights_of) (defBody s_heights_of) (defScope s_heights_of) [] [] f fd) (hm : mg "heights_of" = some (.ref f)) :
    Has P w K mg base (L2.CX P w) "heights_of" 5 ["coins", "rule"] [] (spHof K CS CP) := by
  refine has_mkX F hm sc_heights_of (fun vs H Q E h => by obtain ⟨_, _, _, _, _, _, _, rfl, _⟩ := h; rfl) (fun _ _ _ _ _ _ us hl => match us, hl with | [_, _], _ => rfl) fun cdv A outer s H vs Q E hr h => ?_
  obtain ⟨B, v1, v2, b, b2, cs, r, rfl, x, h1, h2, hc01, ok, hlen, qP, qR⟩ := h
  have nx : NoY (L2.CX P w) := noYX
  refine ⟨_, (pss_cons (ps_expr (pe_has G_check_coins (hr.mono (by decide)) (by rfl) (pa_cons (pv 0) pa_nil) (nx _))) (pss_cons (ps_expr (pe_has G_check_rule (hr.mono (by decide)) (by rfl) (pa_cons (pv 1) pa_nil) (nx _))) (pss_cons (ps_if (PW.pt (pw_and (pt_cmpR op_gt (pe_callB call_len_seq (by rfl) bl.len bb_len (pa_cons (pv 0) pa_nil)) pe_int (nomark _)) (pw_and1 (pt_cmpR op_eq (pe_has G_limit_of (hr.mono (by decide)) (by rfl) (pa_cons (pv 1) (pa_cons pe_int pa_nil)) (nx _)) pe_int (nomark _))))) (pss_one (ps_raise rfl (takes_of rfl rfl rfl rfl) (pmk_oex X_Spare.T X_Spare.iC X_Spare.tI X_Spare.F (hr.mono (by decide)) X_Spare.b .nil (nx _) (by rfl) X_Spare.gC (pa_cons pe_int pa_nil)))) pss_nil) (pss_cons (ps_set (i := 2) sc_heights_of.nd rfl (by first | exact .inl rfl | exact .inr rfl) (pe_lst pa_nil)) (pss_cons (ps_set (i := 3) sc_heights_of.nd rfl (by first | exact .inl rfl | exact .inr rfl) pe_int) (pss_cons (ps_set (i := 4) sc_heights_of.nd rfl (by first | exact .inl rfl | exact .inr rfl) pe_int) (pss_cons (ps_while (passes_of rfl) (pt_cmpR op_lt (pv 4) (pe_callB call_len_seq (by rfl) bl.len bb_len (pa_cons (pv 0) pa_nil)) (nomark _)) (pss_cons (ps_asg (pe_has G_grown (hr.mono (by decide)) (by rfl) (pa_cons (pv 0) (pa_cons (pv 4) (pa_cons (pe_has G_limit_of (hr.mono (by decide)) (by rfl) (pa_cons (pv 1) (pa_cons (pv 3) pa_nil)) (nx _)) pa_nil))) (fun pins σ => passAt (takes_of rfl rfl rfl rfl) σ pins)) (pg_row rfl (pgs_cons (pg_name (i := 5) sc_heights_of.nd rfl (by first | exact .inl rfl | exact .inr rfl)) (pgs_cons (pg_name (i := 4) sc_heights_of.nd rfl (by first | exact .inl rfl | exact .inr rfl)) pgs_nil)))) (pss_cons (ps_expr (pe_bm PySem.F.plainAttrs_list PySem.F.slot_list_append PySem.F.type_list_append mt_append (pv 2) (pa_cons (pv 5) pa_nil))) (pss_one (ps_set (i := 3) sc_heights_of.nd rfl (by first | exact .inl rfl | exact .inr rfl) (pe_callB (call_max2 rfl) (by rfl) bl.max bb_max (pa_cons (pv 3) (pa_cons (pv 5) pa_nil)))))))) (pss_one (ps_ret (pv 2)))))))))), ?_⟩
  refine qd_drop x (u_check_coins (d_var rfl h1) hc01) fun H1 e1 => qd_drop (x.trans e1) (u_check_rule (d_var rfl h2) ok) fun H2 e2 => ?_
  have e12 := e1.trans e2
  have look : EvT (tAnd (tTest (tOp (rI0 fun i j => .bl (decide (i > j))) (tCB (fun xs H Q => ∃ p ys, xs = [V.ref p] ∧ (SqL K H p ys ∨ SqT K H p ys) ∧ Q (.int ys.length) H) (tCons (tVar 0) tNil)) (tC (.int 0)))) (tTest (tOp rEq (tCall (spP K 2 R_limit_of) [] E0 (tCons (tVar 1) (tCons (tC (.int 1)) tNil))) (tC (.int 1)))))
      [some v1, some v2, none, none, none, none] B (decide (cs ≠ [] ∧ limR r 1 = some 1)) := by
    refine et_is (et_and (t_test (K := K) (d_op (d_cb (da_cons (d_var rfl h1) da_nil) fun _ _ => rcd_len) d_int fun _ _ => rd_cmp)) fun _ => t_test (K := K) (d_op (u_limit_of (t := 1) (d_var rfl h2) d_int ok) d_int fun _ _ => rd_eq (scal_opt _ _))) ?_
    rw [eqS_opt, List.length_map]
    by_cases z : cs = []
    · subst z
      simp
    · have : 0 < cs.length := List.length_pos_iff.mpr z
      have c1 : decide (((cs.length : Nat) : Int) > 0) = true := decide_eq_true (by omega)
      rw [c1, Bool.true_and]
      exact decide_eq_decide.mpr ⟨fun y => ⟨z, y⟩, fun y => y.2⟩
  by_cases c0 : cs ≠ [] ∧ limR r 1 = some 1
  · refine qd_when (b := true) (x.trans e12) (et_is look (decide_eq_true c0)) (fun _ H3 e3 => ?_) fun z => Bool.noConfusion z
    have e13 := e12.trans e3
    exact mk_one X_Spare.T X_Spare.no (x.trans e13) (d_int (i := 0)) fun d H7 e7 hd hx => qP c0 d H7 (e13.trans e7) (fresh_back e13 hd) hx
  obtain ⟨qS, qE⟩ := qR c0
  generalize hL : rdF r (2 * cs.length + 1) 0 cs = L at qS qE
  refine qd_no (x.trans e12) (et_is look (decide_eq_false c0)) fun H3 e3 => ?_
  have e13 := e12.trans e3
  refine qd_asgL (K := K) (x.trans e13) (dl_lst da_nil (Nat.zero_le _)) fun lt xs G4 H4 l0 l1 g4 hlt hxs => ?_
  cases hxs
  have lt0 : H lt = none := fresh_back e13 l1
  have g4' := (Gr.ex x e13).trans g4
  refine qd_asg (K := K) (d := .int 0) g4.g2 d_int fun va G5 H5 g5 hva => ?_
  rw [hva.int_of]
  have g5' := g4'.trans g5
  have l5 := g5.sep lt l0 (by rw [hlt]; exact fun z => nomatch z)
  refine qd_asg (K := K) (d := .int 0) g5.g2 d_int fun vb G6 H6 g6 hvb => ?_
  rw [hvb.int_of]
  have g6' := g5'.trans g6
  have hl5 := g5.h12 _ _ hlt
  have l6 := g6.sep lt l5 (by rw [hl5]; exact fun z => nomatch z)
  refine qd_while (fun m σ' H' => ∃ (t : Int) (pl : Nat) (ys : List Int) (a5 : Option V) (G : Hp) (n : Nat), σ' = [some v1, some v2, some (.ref lt), some (.int t), some (.int (pl : Nat)), a5] ∧ Gr B H G H' ∧ G lt = none ∧ H' lt = some (.lst (ys.map V.int)) ∧ pl ≤ cs.length ∧ 0 ≤ t ∧ ys.length + m ≤ 40001 ∧
    m = 2 * (cs.length - pl) + (if t = 0 then 1 else 0) ∧ m ≤ n ∧ L = (rdF r n t (cs.drop pl)).map (ys ++ ·))
    (2 * cs.length + 1) ⟨0, 0, [], _, G6, 2 * cs.length + 1, rfl, g6', l6, g6.h12 _ _ hl5, Nat.zero_le _, Int.le_refl _, by show 0 + (2 * cs.length + 1) ≤ 40001; omega, rfl, Nat.le_refl _, ?_⟩ ?_
  · rw [List.drop_zero, hL]
    cases L <;> rfl
  rintro m σ' H' ⟨t, pl, ys, a5, G, n, rfl, g, gl, hl', hpl, ht, hym, hmm, hmn, hrd⟩
  have h1G := dp_mono g.hg h1
  have h2G := dp_mono g.hg h2
  have key : EvT (tTest (tOp (rI0 fun i j => .bl (decide (i < j))) (tVar 4) (tCB (fun xs H Q => ∃ p ys, xs = [V.ref p] ∧ (SqL K H p ys ∨ SqT K H p ys) ∧ Q (.int ys.length) H) (tCons (tVar 0) tNil)))) [some v1, some v2, some (.ref lt), some (.int t), some (.int (pl : Nat)), a5] G (decide (pl < cs.length)) :=
    et_is (t_test (K := K) (d_op (d_var rfl (.int _)) (d_cb (da_cons (d_var rfl h1G) da_nil) fun _ _ => rcd_len) fun _ _ => rd_cmp)) (by rw [List.length_map]; exact decide_eq_decide.mpr ⟨fun z => by omega, fun z => by omega⟩)
  refine ⟨_, G, g.g2, key, fun hc H7 e7 => ?_, fun hc H7 e7 => ?_⟩
  · have hlt' := of_decide_eq_true hc
    have hcs : cs ≠ [] := fun z => by rw [z] at hlt'; cases hlt'
    have hl1 : limR r 1 ≠ some 1 := fun z => c0 ⟨hcs, z⟩
    have hdne : cs.drop pl ≠ [] := fun z => by
      have := congrArg List.length z
      rw [List.length_drop] at this
      simp at this
      omega
    obtain ⟨n', rfl⟩ : ∃ n', n = n' + 1 := ⟨n - 1, by omega⟩
    rw [rdF, if_neg hdne] at hrd
    have g7 := g.trans (Gr.ex g.g2 e7)
    have hl7 : H7 lt = some (.lst (ys.map V.int)) := e7 _ _ hl'
    refine ⟨fun σ' H' => ∃ m', m' < m ∧ ∃ (t : Int) (pl : Nat) (ys : List Int) (a5 : Option V) (G : Hp) (n : Nat), σ' = [some v1, some v2, some (.ref lt), some (.int t), some (.int (pl : Nat)), a5] ∧ Gr B H G H' ∧ G lt = none ∧ H' lt = some (.lst (ys.map V.int)) ∧ pl ≤ cs.length ∧ 0 ≤ t ∧ ys.length + m' ≤ 40001 ∧
      m' = 2 * (cs.length - pl) + (if t = 0 then 1 else 0) ∧ m' ≤ n ∧ L = (rdF r n t (cs.drop pl)).map (ys ++ ·), fun σ2 H2 z => z, ?_⟩
    refine qd_callX (K := K) g7.g2 (da_cons (d_var rfl h1G) (da_cons (d_var rfl (.int _)) (da_cons (u_limit_of (t := t) (d_var rfl h2G) (d_var rfl (.int t)) ok) da_nil))) fun vs G8 H8 g8 hd => ?_
    match vs, hd with
    | [w1, w2, w3], .cons k1 (.cons k2 (.cons k3 .nil)) =>
      have ek := k2.int_of
      subst ek
      have g8' := g7.trans g8
      have hl8 := g8.h12 _ _ hl7
      have gl8 := g8.sep lt gl (by rw [hl7]; exact fun z => nomatch z)
      refine ⟨G8, w1, w3, b, cs, pl, limR r t, rfl, g8.g2, k1, k3, hpl, fun h k hk v G9 H9 g9 hv => ?_, fun hk d H9 e9 hd9 hx => ?_⟩
      · rw [hk] at hrd
        obtain ⟨f1, f2, f3⟩ := groF_facts hk
        rw [List.length_drop] at f2
        have g9' := g8'.trans g9
        have gl9 := g9.sep lt gl8 (by rw [hl8]; exact fun z => nomatch z)
        refine g_pairB (K := K) (b := false) g9.g2 hv fun yh yp hyh hyp => ?_
        rw [hyh.int_of, hyp.int_of]
        refine qd_append (K := K) (j := 2) (d := .int h) g9'.g2 (g9.h12 _ _ hl8) gl9 rfl (d_var rfl (.int h)) (by rw [List.length_map]; omega) fun y G10 H10 g10 gl10 hl10 hy => ?_
        rw [hy.int_of]
        have g10' := gr_mut (o := .lst (ys.map V.int ++ [.int h])) (g9'.trans g10) gl10 lt0
        refine sd_asg (K := K) g10'.g2 (d_cb (da_cons (d_var rfl (.int t)) (da_cons (d_var rfl (.int h)) da_nil)) fun _ _ => rcd_max2) fun v G11 H11 g11 hv => ?_
        rw [hv.int_of]
        have gl11 := g11.sep lt gl10 (by rw [upd_same]; exact fun z => nomatch z)
        have hmax : ¬ (max t h = 0) := by omega
        have hk1 : t ≠ 0 → 1 ≤ k := fun z => f3 (lim_two ok (by omega) hl1)
        have hless : 2 * (cs.length - (pl + k)) < m := by
          rw [hmm]
          by_cases z : t = 0
          · rw [if_pos z]
            omega
          · have := hk1 z
            rw [if_neg z]
            omega
        refine ⟨2 * (cs.length - (pl + k)), hless, max t h, pl + k, ys ++ [h], _, G11, n', rfl, g10'.trans g11, gl11, by rw [g11.h12 _ _ upd_same, List.map_append]; rfl, by omega, by omega, by rw [List.length_append]; show ys.length + 1 + _ ≤ _; omega, by rw [if_neg hmax]; rfl, by omega, ?_⟩
        rw [hrd]
        show ((rdF r n' (max t h) ((cs.drop pl).drop k)).map _).map _ = _
        rw [Option.map_map, List.drop_drop]
        congr 1
        funext l
        show ys ++ h :: l = ys ++ [h] ++ l
        rw [List.append_assoc]
        rfl
      · rw [hk] at hrd
        have e18 : Ex H H8 := g8'.h12
        exact qE hrd d H9 (e18.trans e9) (fresh_back e18 hd9) hx
  · have hge : ¬ pl < cs.length := of_decide_eq_false hc
    have hdn : cs.drop pl = [] := List.drop_eq_nil_of_le (by omega)
    have g7 := g.trans (Gr.ex g.g2 e7)
    have gfz := gr_freeze gl lt0 g7 (e7 _ _ hl')
    have hr : L = some ys := by
      rw [hrd, hdn]
      cases n with
      | zero =>
        show some (ys ++ []) = _
        rw [List.append_nil]
      | succ n =>
        rw [rdF, if_pos rfl]
        show some (ys ++ []) = _
        rw [List.append_nil]
    exact sd_ret (K := K) gfz.g2 (d_var rfl (dp_freeze gl (DpAll.of_ints ys))) fun v G8 H8 g8 hv => qS ys hr v G8 H8 (gfz.trans g8) hv
end
end Tk
end

section
set_option Elab.async false
set_option linter.all false
set_option maxRecDepth 100000
set_option maxHeartbeats 1000000
/-! The law's source of choices. -/
namespace Tk
open PySem PySem.Spec PyProof.Rows L2 Evl Tb
abbrev s_law_source_of : Stmt := topS 30
abbrev n_law_source_of : List Str := ["_law_cell"]
theorem sc_law_source_of : FnScope n_law_source_of ["_law_cell"] (defScope s_law_source_of) := ⟨rfl, rfl, rfl, by decide +kernel, rfl, by decide +kernel, by decide +kernel⟩

abbrev s_law_next : Stmt := topS 31
abbrev n_law_next : List Str := ["_law_source", "_law_many", "_law_found", "_law_prime", "_law_number"]
theorem sc_law_next : FnScope n_law_next ["_law_source", "_law_many"] (defScope s_law_next) := ⟨rfl, rfl, rfl, by decide +kernel, rfl, by decide +kernel, by decide +kernel⟩

abbrev s_law_one : Stmt := topS 32
abbrev n_law_one : List Str := ["_law_source", "_law_some"]
theorem sc_law_one : FnScope n_law_one ["_law_source", "_law_some"] (defScope s_law_one) := ⟨rfl, rfl, rfl, by decide +kernel, rfl, by decide +kernel, by decide +kernel⟩

/-- all but what stands at a is as it was -/
def Exa (a : Addr) (H H' : Hp) : Prop := ∀ b o, b ≠ a → H b = some o → H' b = some o
theorem Exa.trans {a : Addr} {H H1 H2 : Hp} (x : Exa a H H1) (y : Exa a H1 H2) : Exa a H H2 := fun b o h e => y b o h (x b o h e)
theorem Exa.of {a : Addr} {H H1 : Hp} (x : Ex H H1) : Exa a H H1 := fun b o _ e => x b o e
theorem Exa.upd {a : Addr} {H : Hp} {o : HO} : Exa a H (upd H a o) := fun b u h e => by rw [upd_ne h]; exact e
/-- what does not know a stays -/
theorem Exa.base {a : Addr} {B H H' : Hp} (y : Exa a H H') (x : Ex B H) (h : B a = none) : Ex B H' := fun b o e => y b o (ne_of_none e h) (x b o e)
def SrcAt (H : Hp) (a : Addr) : Prop := ∃ s0 s1 s2 : Int, H a = some (.lst [.int s0, .int s1, .int s2])
theorem SrcAt.mono {H H' : Hp} {a : Addr} (e : Ex H H') (h : SrcAt H a) : SrcAt H' a := let ⟨s0, s1, s2, h⟩ := h; ⟨s0, s1, s2, e _ _ h⟩
structure GrA (a : Addr) (B H G H' : Hp) : Prop where
  hg : Ex B G
  g2 : Ex G H'
  h12 : Exa a H H'
  sep : ∀ b, B b = none → H b ≠ none → G b = none
theorem GrA.of {a : Addr} {B H G H' : Hp} (g : Gr B H G H') : GrA a B H G H' := ⟨g.hg, g.g2, .of g.h12, g.sep⟩
theorem GrA.turn {a : Addr} {B H H' : Hp} (x : Ex B H) (h : B a = none) (y : Exa a H H') : GrA a B H B H' := ⟨Ex.refl B, y.base x h, y, fun _ h _ => h⟩
theorem GrA.trans {a : Addr} {B H G H1 G' H2 : Hp} (x : GrA a B H G H1) (y : GrA a G H1 G' H2) (hs : H1 a ≠ none) : GrA a B H G' H2 :=
  ⟨x.hg.trans y.hg, y.g2, x.h12.trans y.h12, fun b h1 h2 => y.sep b (x.sep b h1 h2) fun z => by
    by_cases c : b = a
    · subst c
      exact hs z
    · cases q : H b with
      | none => exact h2 q
      | some o =>
        rw [x.h12 b o c q] at z
        cases z⟩
theorem SrcAt.ne {H : Hp} {a : Addr} (h : SrcAt H a) : H a ≠ none := let ⟨_, _, _, e⟩ := h; fun z => by rw [z] at e; cases e

def spSourceOf : Sp := fun vs H Q _ => ∃ n : Int, vs = [.int n] ∧ ∀ p H2, H p = none → Ex H H2 → (∀ b, b ≠ p → H b ≠ none ∨ H2 b = none → True) → SrcAt H2 p → Q (.ref p) H2
def spNext : Sp := fun vs H Q _ => ∃ (a : Addr) (m : Int), vs = [.ref a, .int m] ∧ SrcAt H a ∧ 0 < m ∧ m ≤ 10 ^ 20 ∧ ∀ (r : Int) H', 0 ≤ r → r < m → Exa a H H' → SrcAt H' a → Q (.int r) H'
def spOne (K : PySem.W.Frag) : Sp := fun vs H Q _ => ∃ (a : Addr) (v2 : V) (B : Hp) (b : Bool) (ds : List PyData), vs = [.ref a, v2] ∧ Ex B H ∧ B a = none ∧ SrcAt H a ∧ Dp K B v2 (rows b ds) ∧ 0 < ds.length ∧ ds.length ≤ 1000 ∧
  ∀ d v H', d ∈ ds → Dp K B v d → Exa a H H' → SrcAt H' a → Q v H'
section
variable {P : Program} {w : World} {K : PySem.W.Frag} {mg : Str → Option Value} {base : Heap} {CX : CXT} {f : Addr} {fd : FuncData}
theorem H_source_of (bl : Bl mg) (F : FunD K "_law_source_of" "_law_source_of" (defArgs s_law_source_of) (defBody s_law_source_of) (defScope s_law_source_of) [] [] f fd) (hm : mg "_law_source_of" = some (.ref f)) :
    Has P w K mg base CX "_law_source_of" 1 ["_law_cell"] [] spSourceOf := by
  refine has_mk F hm sc_law_source_of (fun vs H Q E h => by obtain ⟨n, rfl, _⟩ := h; rfl) (fun _ _ _ _ _ _ us hl => match us, hl with | [_], _ => rfl) fun cdv A outer s H vs Q E hr h => ?_
  obtain ⟨n, rfl, q⟩ := h
  refine ⟨_, (pss_cons (ps_set (i := 0) sc_law_source_of.nd rfl (by first | exact .inl rfl | exact .inr rfl) (pe_ifExp (pt_cmpR op_ge (pv 0) pe_int (nomark _)) (pv 0) (pe_op op_sub (pe_op op_sub pe_int (pe_op op_mul pe_int (pv 0))) pe_int))) (pss_one (ps_ret (pe_lst (pa_cons (pe_op op_mul (pv 0) (pe_callTy call_int1 (by rfl) bl.int bb_int (pa_cons (pe_cmpR op_ge (pv 0) (pe_op op_pow pe_int pe_int) (nomark _)) pa_nil))) (pa_cons (pe_op op_mod (pe_callTy call_int1 (by rfl) bl.int bb_int (pa_cons (pv 0) pa_nil)) pe_int) (pa_cons pe_int pa_nil))))))), ?_⟩
  have x := Ex.refl H
  have hn : Dp K H (.int n) (.int n) := .int n
  refine qd_asg (K := K) (d := .int (if 0 ≤ n then n else 0 - 3 * n - 1)) x (d_if (b := decide (0 ≤ n)) (t_test (d_op (d_var rfl hn) d_int fun _ _ => rd_cmp)) (fun h => ?_) fun h => ?_) fun v G H1 g hv => ?_
  · rw [if_pos (of_decide_eq_true h)]
    exact d_var rfl hn
  · rw [if_neg (of_decide_eq_false h)]
    exact d_op (d_op d_int (d_op d_int (d_var rfl hn) fun _ _ => rd_intC (.inl ⟨by decide, by decide⟩)) fun _ _ => rd_int) d_int fun _ _ => rd_int
  · generalize (if 0 ≤ n then n else 0 - 3 * n - 1) = k at hv
    refine sd_retL (K := K) g.g2 (dl_lst (ds := [_, _, .int 0]) (da_cons (d_op (d_var rfl hv) (d_cb (da_cons (d_op (d_var rfl hv) (d_op d_int d_int fun _ _ => rd_intC (⟨by decide, by decide, by decide⟩ : CPow 10 18)) fun _ _ => rd_cmp) da_nil) fun _ _ => rcd_intB) fun _ _ => rd_intC (.inr ?_))
      (da_cons (d_op (d_cb (da_cons (d_var rfl hv) da_nil) fun _ _ => rcd_int1) d_int fun _ _ => rd_intC (by show (0 : Int) < 2147483647; decide)) (da_cons d_int da_nil))) (by show 3 ≤ 100000; decide)) fun p xs G2 H2 g0 h0 g2 hp hxs => ?_
    · split <;> exact ⟨by decide, by decide⟩
    · match xs, hxs with
      | [_, _, _], .cons a1 (.cons a2 (.cons a3 .nil)) =>
        rw [a1.int_of, a2.int_of, a3.int_of] at hp
        exact q p H2 (fresh_back g.h12 h0) (g.h12.trans g2.h12) (fun _ _ _ => trivial) ⟨_, _, _, hp⟩
end
end Tk
end

section
set_option Elab.async false
set_option linter.all false
set_option maxRecDepth 100000
set_option maxHeartbeats 1000000
/-! The law's numbers. -/
namespace Tk
open PySem PySem.Spec PyProof.Rows L2 Evl Tb
def Sr (a : Addr) (s0 s1 s2 : Int) : Hp := upd (fun _ => none) a (.lst [.int s0, .int s1, .int s2])
theorem sr_ex {a : Addr} {s0 s1 s2 : Int} {H : Hp} (h : H a = some (.lst [.int s0, .int s1, .int s2])) : Ex (Sr a s0 s1 s2) H := fun b o e => by
  unfold Sr at e
  by_cases c : b = a
  · subst c
    rw [upd_same] at e
    cases e
    exact h
  · rw [upd_ne c] at e
    cases e
section
variable {K : PySem.W.Frag} {σ : L2.St} {H : Hp} {te : TE} {D : Ends} {tz : TS} {a : Addr} {s0 s1 s2 : Int}
theorem sr_dp : Dp K (Sr a s0 s1 s2) (.ref a) (rows true [.int s0, .int s1, .int s2]) := .lst (sq_of upd_same) (DpAll.of_ints [s0, s1, s2])
theorem d_sr {k n : Int} (hv : σ[0]? = some (some (.ref a))) (hk : atI [PyData.int s0, .int s1, .int s2] k = some (.int n)) : EvD K (tOp (rIxR K) (tVar 0) (tC (.int k))) σ (Sr a s0 s1 s2) (.int n) := d_op (d_var hv sr_dp) d_int fun _ _ => rd_ix hk
theorem qd_setS {k : Int} {j : Nat} {n : Int} (h : H a = some (.lst [.int s0, .int s1, .int s2])) (hv : σ[0]? = some (some (.ref a))) (he : EvD K te σ (Sr a s0 s1 s2) (.int n)) (hj : ixN 3 k = some j)
    (kk : ∀ H1, Exa a H H1 → H1 a = some (.lst (([.int s0, .int s1, .int s2] : List V).set j (.int n))) → tz D σ H1) : tSeq (tAsg te (gSub (tVar 0) (tC (.int k)) rSetL)) tz D σ H := he H (sr_ex h) _ fun v G H1 g hv1 => by
  rw [hv1.int_of]
  exact ⟨_, hv, a, _, k, j, rfl, rfl, g.h12 _ _ h, hj, kk _ ((Exa.of g.h12).trans Exa.upd) upd_same⟩
end
theorem mod_in {x m : Int} (h : 0 < m) : 0 ≤ x % m ∧ x % m < m := ⟨Int.emod_nonneg x (by omega), Int.emod_lt_of_pos x h⟩
section
variable {P : Program} {w : World} {K : PySem.W.Frag} {mg : Str → Option Value} {base : Heap} {CX : CXT} {f : Addr} {fd : FuncData}
theorem H_next (bl : Bl mg) (F : FunD K "_law_next" "_law_next" (defArgs s_law_next) (defBody s_law_next) (defScope s_law_next) [] [] f fd) (hm : mg "_law_next" = some (.ref f)) :
    Has P w K mg base CX "_law_next" 1 ["_law_source", "_law_many"] [] spNext := by
  refine has_mk F hm sc_law_next (fun vs H Q E h => by obtain ⟨a, m, rfl, _⟩ := h; rfl) (fun _ _ _ _ _ _ us hl => match us, hl with | [_, _], _ => rfl) fun cdv A outer s H vs Q E hr h => ?_
  obtain ⟨a, m, rfl, ⟨s0, s1, s2, ha⟩, m0, m20, q⟩ := h
  refine ⟨_, (pss_cons (ps_if (pt_cmpR op_gt (pe_ix ix_row (pv 0) pe_int (fun _ _ => rfl)) pe_int (nomark _)) (pss_cons (ps_set (i := 2) sc_law_next.nd rfl (by first | exact .inl rfl | exact .inr rfl) (pe_op op_mod (pe_callTy call_int1 (by rfl) bl.int bb_int (pa_cons (pe_ix ix_row (pv 0) pe_int (fun _ _ => rfl)) pa_nil)) (pv 1))) (pss_cons (ps_asg (pe_op op_fdivW (pe_ix ix_row (pv 0) pe_int (fun _ _ => rfl)) (pv 1)) (pg_sub (pv 0) pe_int set_list)) (pss_one (ps_ret (pv 2))))) pss_nil) (pss_cons (ps_asg (pe_op op_add (pe_ix ix_row (pv 0) pe_int (fun _ _ => rfl)) pe_int) (pg_sub (pv 0) pe_int set_list)) (pss_cons (ps_set (i := 3) sc_law_next.nd rfl (by first | exact .inl rfl | exact .inr rfl) pe_int) (pss_cons (ps_set (i := 4) sc_law_next.nd rfl (by first | exact .inl rfl | exact .inr rfl) (pe_op op_mod (pe_callTy call_int1 (by rfl) bl.int bb_int (pa_cons (pe_op op_add (pe_op op_add (pe_ix ix_row (pv 0) pe_int (fun _ _ => rfl)) (pe_op op_mul pe_int (pe_ix ix_row (pv 0) pe_int (fun _ _ => rfl)))) pe_int) pa_nil)) (pv 3))) (pss_cons (ps_set (i := 4) sc_law_next.nd rfl (by first | exact .inl rfl | exact .inr rfl) (pe_op op_mod (pe_callTy call_int1 (by rfl) bl.int bb_int (pa_cons (pe_op op_mul (pv 4) pe_int) pa_nil)) (pv 3))) (pss_cons (ps_set (i := 4) sc_law_next.nd rfl (by first | exact .inl rfl | exact .inr rfl) (pe_op op_mod (pe_callTy call_int1 (by rfl) bl.int bb_int (pa_cons (pe_op op_mul (pv 4) (pe_op op_add (pe_op op_fdivW (pv 4) pe_int) pe_int)) pa_nil)) (pv 3))) (pss_cons (ps_set (i := 4) sc_law_next.nd rfl (by first | exact .inl rfl | exact .inr rfl) (pe_op op_mod (pe_callTy call_int1 (by rfl) bl.int bb_int (pa_cons (pe_op op_mul (pv 4) (pe_op op_add (pe_op op_fdivW (pv 4) pe_int) pe_int)) pa_nil)) pe_int)) (pss_one (ps_ret (pe_op op_mod (pe_callTy call_int1 (by rfl) bl.int bb_int (pa_cons (pe_op op_fdivW (pv 4) pe_int) pa_nil)) (pv 1))))))))))), ?_⟩
  have m70 : m.natAbs < 2 ^ 70 := by
    have : (10 : Int) ^ 20 < 2 ^ 70 := by decide
    omega
  have mI : ∀ G, Dp K G (.int m) (.int m) := fun _ => .int m
  refine qd_when (b := decide (s0 > 0)) (sr_ex ha) (t_test (K := K) (d_op (d_sr rfl rfl) d_int fun _ _ => rd_cmp)) (fun _ H1 e1 => ?_) (fun _ H1 e1 => ?_)
  · have h1 := e1 _ _ ha
    refine qd_asg (K := K) (d := .int (s0 % m)) (sr_ex h1) (d_op (d_cb (da_cons (d_sr rfl rfl) da_nil) fun _ _ => rcd_int1) (d_var rfl (mI _)) fun _ _ => rd_intC m0) fun v G H2 g hv => ?_
    rw [hv.int_of]
    have h2 := g.h12 _ _ h1
    refine qd_setS (K := K) (n := s0 / m) (j := 0) h2 rfl (d_op (d_sr rfl rfl) (d_var rfl (mI _)) fun _ _ => rd_intC (wide_div m0 m70 (by decide) (by decide))) rfl fun H3 x3 h3 => ?_
    have mm := mod_in (x := s0) m0
    exact ⟨_, rfl, q _ _ mm.1 mm.2 ((Exa.of (e1.trans g.h12)).trans x3) ⟨_, _, _, h3⟩⟩
  · have h1 := e1 _ _ ha
    refine qd_setS (K := K) (n := s2 + 1) (j := 2) h1 rfl (d_op (d_sr rfl rfl) d_int fun _ _ => rd_int) rfl fun H2 x2 h2 => ?_
    have h2 : H2 a = some (.lst [.int s0, .int s1, .int (s2 + 1)]) := h2
    have X2 := (Exa.of e1).trans x2
    refine qd_asg (K := K) (d := .int 2147483647) (sr_ex h2) d_int fun v G H3 g3 hv => ?_
    rw [hv.int_of]
    have h3 := g3.h12 _ _ h2
    have X3 := X2.trans (Exa.of g3.h12)
    have pI : ∀ G, Dp K G (.int 2147483647) (.int 2147483647) := fun _ => .int _
    have p0 : (0 : Int) < 2147483647 := by decide
    refine qd_asg (K := K) (d := .int ((s1 + 104729 * (s2 + 1) + 7919) % 2147483647)) (sr_ex h3) (d_op (d_cb (da_cons (d_op (d_op (d_sr rfl rfl) (d_op d_int (d_sr rfl rfl) fun _ _ => rd_intC (.inl ⟨by decide, by decide⟩)) fun _ _ => rd_int) d_int fun _ _ => rd_int) da_nil) fun _ _ => rcd_int1) (d_var rfl (pI _)) fun _ _ => rd_intC p0) fun v G4 H4 g4 hv => ?_
    rw [hv.int_of]
    have b4 := mod_in (x := s1 + 104729 * (s2 + 1) + 7919) p0
    generalize (s1 + 104729 * (s2 + 1) + 7919) % 2147483647 = n4 at b4
    have h4 := g4.h12 _ _ h3
    have X4 := X3.trans (Exa.of g4.h12)
    refine qd_asg (K := K) (d := .int (n4 * 48271 % 2147483647)) (sr_ex h4) (d_op (d_cb (da_cons (d_op (d_var rfl (.int n4)) d_int fun _ _ => rd_intC (.inr ⟨by decide, by decide⟩)) da_nil) fun _ _ => rcd_int1) (d_var rfl (pI _)) fun _ _ => rd_intC p0) fun v G5 H5 g5 hv => ?_
    rw [hv.int_of]
    have b5 := mod_in (x := n4 * 48271) p0
    generalize n4 * 48271 % 2147483647 = n5 at b5
    have h5 := g5.h12 _ _ h4
    have X5 := X4.trans (Exa.of g5.h12)
    refine qd_asg (K := K) (d := .int (n5 * (n5 / 1009 + 69621) % 2147483647)) (sr_ex h5) (d_op (d_cb (da_cons (d_op (d_var rfl (.int n5)) (d_op (d_op (d_var rfl (.int n5)) d_int fun _ _ => rd_intC (wide_div (b := 10) (by decide) (by decide) (by decide) (by decide))) d_int fun _ _ => rd_int) fun _ _ => rd_intC (.inl ⟨by omega, by omega⟩)) da_nil) fun _ _ => rcd_int1) (d_var rfl (pI _)) fun _ _ => rd_intC p0) fun v G6 H6 g6 hv => ?_
    rw [hv.int_of]
    have b6 := mod_in (x := n5 * (n5 / 1009 + 69621)) p0
    generalize n5 * (n5 / 1009 + 69621) % 2147483647 = n6 at b6
    have h6 := g6.h12 _ _ h5
    have X6 := X5.trans (Exa.of g6.h12)
    refine qd_asg (K := K) (d := .int (n6 * (n6 / 2003 + 40692) % 2147483399)) (sr_ex h6) (d_op (d_cb (da_cons (d_op (d_var rfl (.int n6)) (d_op (d_op (d_var rfl (.int n6)) d_int fun _ _ => rd_intC (wide_div (b := 11) (by decide) (by decide) (by decide) (by decide))) d_int fun _ _ => rd_int) fun _ _ => rd_intC (.inl ⟨by omega, by omega⟩)) da_nil) fun _ _ => rcd_int1) d_int fun _ _ => rd_intC (by show (0 : Int) < 2147483399; decide)) fun v G7 H7 g7 hv => ?_
    rw [hv.int_of]
    generalize n6 * (n6 / 2003 + 40692) % 2147483399 = n7
    have h7 := g7.h12 _ _ h6
    have X7 := X6.trans (Exa.of g7.h12)
    refine sd_ret (K := K) (d := .int (n7 / 7 % m)) (sr_ex h7) (d_op (d_cb (da_cons (d_op (d_var rfl (.int n7)) d_int fun _ _ => rd_intC (wide_div (b := 3) (by decide) (by decide) (by decide) (by decide))) da_nil) fun _ _ => rcd_int1) (d_var rfl (mI _)) fun _ _ => rd_intC m0) fun v G8 H8 g8 hv => ?_
    rw [hv.int_of]
    have mm := mod_in (x := n7 / 7) m0
    exact q _ _ mm.1 mm.2 (X7.trans (Exa.of g8.h12)) ⟨_, _, _, g8.h12 _ _ h7⟩
theorem H_one (bl : Bl mg) (nx : NoX CX) (G_law_next : Has P w K mg base CX "_law_next" 1 ["_law_source", "_law_many"] [] spNext)
    (F : FunD K "_law_one" "_law_one" (defArgs s_law_one) (defBody s_law_one) (defScope s_law_one) [] [] f fd) (hm : mg "_law_one" = some (.ref f)) :
    Has P w K mg base CX "_law_one" 2 ["_law_source", "_law_some"] [] (spOne K) := by
  refine has_mk F hm sc_law_one (fun vs H Q E h => by obtain ⟨a, v2, B, b, ds, rfl, _⟩ := h; rfl) (fun _ _ _ _ _ _ us hl => match us, hl with | [_, _], _ => rfl) fun cdv A outer s H vs Q E hr h => ?_
  obtain ⟨a, v2, B, b, ds, rfl, x, ba, hs, hd, hl, hl2, q⟩ := h
  refine ⟨_, (pss_one (ps_ret (pe_ix ix_row (pv 1) (pe_has G_law_next (hr.mono (by decide)) (by rfl) (pa_cons (pv 0) (pa_cons (pe_callB call_len_seq (by rfl) bl.len bb_len (pa_cons (pv 1) pa_nil)) pa_nil)) (nx _)) (fun _ _ => rfl)))), ?_⟩
  refine ⟨v2, rfl, _, rfl, ?_⟩
  refine d_cb (K := K) (z := .int ds.length) (da_cons (d_var (v := v2) rfl hd) da_nil) (fun _ _ => rcd_len) H x _ fun v G H1 g hv => ?_
  rw [hv.int_of]
  refine ⟨a, ds.length, rfl, hs.mono g.h12, by omega, by omega, fun r H2 r0 r1 e s2 => ?_⟩
  obtain ⟨k, rfl⟩ : ∃ k : Nat, r = (k : Int) := ⟨r.toNat, by omega⟩
  have hk : k < ds.length := by omega
  have xB : Ex B H2 := e.base (x.trans g.h12) ba
  obtain ⟨ad, xs, rfl, hrow, hds⟩ := row_of hd
  obtain ⟨y, h1, h2⟩ := at_dp hds (atI_nat (List.getElem?_eq_getElem hk))
  have fin := q _ y H2 (List.getElem_mem hk) h2 ((Exa.of g.h12).trans e) s2
  rcases hrow with hrow | hrow
  · exact .inl ⟨ad, xs, k, y, rfl, rfl, ex_l xB hrow, h1, fin⟩
  · exact .inr ⟨ad, xs, k, y, rfl, rfl, ex_t xB hrow, h1, fin⟩
end
end Tk
end

section
set_option Elab.async false
set_option linter.all false
set_option maxRecDepth 100000
set_option maxHeartbeats 1000000
/-! k04, the law's limits, coins of a height, coins of heights. -/
namespace Tk
open PySem PySem.Spec PyProof.Rows L2 Evl Tb
abbrev s_law_end : Stmt := topS 34
abbrev n_law_end : List Str := ["_law_rule_here", "_law_high"]
theorem sc_law_end : FnScope n_law_end ["_law_rule_here", "_law_high"] (defScope s_law_end) := ⟨rfl, rfl, rfl, by decide +kernel, rfl, by decide +kernel, by decide +kernel⟩

abbrev s_law_coins : Stmt := topS 35
abbrev n_law_coins : List Str := ["_law_height", "_law_end_here"]
theorem sc_law_coins : FnScope n_law_coins ["_law_height", "_law_end_here"] (defScope s_law_coins) := ⟨rfl, rfl, rfl, by decide +kernel, rfl, by decide +kernel, by decide +kernel⟩

abbrev s_law_due : Stmt := topS 37
abbrev n_law_due : List Str := ["_law_row_so", "_law_rule_here", "_law_found", "_law_high", "_law_height", "_law_some"]
theorem sc_law_due : FnScope n_law_due ["_law_row_so", "_law_rule_here"] (defScope s_law_due) := ⟨rfl, rfl, rfl, by decide +kernel, rfl, by decide +kernel, by decide +kernel⟩

/-- a slice of a row -/
def rSlRow (K : PySem.W.Frag) : V → Option Int → Option Int → Hp → VK → Prop := fun x lo hi H Q => rSlL K x lo hi H Q ∨ rSlA K x lo hi H Q
theorem sl_row {X : Cx} : SlR X (rSlRow X.K) := sl_list.or sl_tupA
theorem cut_tail {α : Type} {x : α} {xs : List α} : ((x :: xs).drop (HT.sIx (xs.length + 1) 0 (some 1))).take (HT.sIx (xs.length + 1) (xs.length + 1) none - HT.sIx (xs.length + 1) 0 (some 1)) = xs := by
  have e : HT.sIx (xs.length + 1) 0 (some 1) = 1 := by
    have := HT.sIx_nat (xs.length + 1) 0 1
    rw [show ((1 : Nat) : Int) = 1 from rfl] at this
    rw [this]
    omega
  rw [e, HT.sIx_none, List.drop_one, List.tail_cons, show xs.length + 1 - 1 = xs.length by omega, List.take_length]
theorem dpa_cons {K : PySem.W.Frag} {H : Hp} {d : PyData} {ds : List PyData} {xs : List V} (h : DpAll K H xs (d :: ds)) : ∃ y ys, xs = y :: ys ∧ Dp K H y d ∧ DpAll K H ys ds := by
  cases h with
  | cons h1 h2 => exact ⟨_, _, rfl, h1, h2⟩
theorem cutV_tail {y : V} {ys : List V} : cutV (y :: ys) (some 1) none = ys := cut_tail
theorem whole_no {y : V} {ys : List V} : ¬ (HT.sIx (y :: ys).length 0 (some 1) = 0 ∧ HT.sIx (y :: ys).length (y :: ys).length none = (y :: ys).length) := fun z => by
  have e : HT.sIx (y :: ys).length 0 (some 1) = 1 := by
    have := HT.sIx_nat (y :: ys).length 0 1
    rw [show ((1 : Nat) : Int) = 1 from rfl, List.length_cons] at this
    rw [List.length_cons, this]
    omega
  rw [e] at z
  exact absurd z.1 (by decide)
section
variable {K : PySem.W.Frag} {σ : L2.St} {B H : Hp} {te tf tg ta tb : TE} {d e : PyData} {ds : List PyData} {E : XK} {b b2 : Bool} {r : Ru} {D : Ends} {tz : TS}
theorem d_tail (h : EvD K te σ B (rows b (d :: ds))) : EvD K (tSl (rSlRow K) te (tPart (tC (.int 1))) tNoPart) σ B (rows b ds) := fun H1 x Q q => h H1 x _ fun v G2 H2 g2 hv => by
  refine ⟨1, rfl, ?_⟩
  cases b with
  | true =>
    obtain ⟨a, xs, rfl, hs, hd⟩ := Dp.lst_of (ds := d :: ds) hv
    obtain ⟨y, ys, rfl, h1, h2⟩ := dpa_cons hd
    refine Or.inl ⟨a, _, rfl, ex_l g2.g2 hs, fun p hp => ?_⟩
    rw [cutV_tail]
    exact q _ _ _ (g2.trans (Gr.new g2.g2 hp)) (.lst (sq_of upd_same) (dpa_mono (Ex.new (fresh_back g2.g2 hp)) h2))
  | false =>
    obtain ⟨a, xs, rfl, hs, hd⟩ := Dp.tup_of (ds := d :: ds) hv
    obtain ⟨y, ys, rfl, h1, h2⟩ := dpa_cons hd
    refine Or.inr ⟨a, _, rfl, ex_t g2.g2 hs, fun z => absurd z whole_no, fun _ p hp => ?_⟩
    rw [cutV_tail]
    exact q _ _ _ (g2.trans (Gr.new g2.g2 hp)) (.tup (st_of upd_same) (dpa_mono (Ex.new (fresh_back g2.g2 hp)) h2))
theorem qd_par2 {i j : Nat} (x : Ex B H) (h1 : EvD K ta σ B d) (h2 : EvD K tb σ B e) (k : ∀ v w G H1, Gr B H G H1 → Dp K G v d → Dp K G w e → tz D ((σ.set i (some v)).set j (some w)) H1) : tSeq (tPar i j (tCons ta (tCons tb tNil))) tz D σ H := by
  show (tCons ta (tCons tb tNil)) σ H fun vs H1 => ∃ v w, vs = [v, w] ∧ tz D ((σ.set i (some v)).set j (some w)) H1
  refine (da_cons h1 (da_cons h2 da_nil)) H x _ fun vs G H1 g hd => ?_
  match vs, hd with
  | [v, w], .cons hv (.cons hw .nil) => exact ⟨v, w, rfl, k v w G H1 g hv hw⟩
theorem sd_par2 {i j : Nat} (x : Ex B H) (h1 : EvD K ta σ B d) (h2 : EvD K tb σ B e) (k : ∀ v w G H1, Gr B H G H1 → Dp K G v d → Dp K G w e → D.nx ((σ.set i (some v)).set j (some w)) H1) : tPar i j (tCons ta (tCons tb tNil)) D σ H := qd_par2 (tz := fun D σ H => D.nx σ H) x h1 h2 k
def R_law_end (ds : List PyData) (z : PyData) : Prop := ∃ b r t, ds = [ruD b r, .int t] ∧ z = optD (limR r t)
def R_law_coins (ds : List PyData) (z : PyData) : Prop := ∃ h g, ds = [.int h, optD g] ∧ 1 ≤ h ∧ h ≤ 1000 ∧ z = optT (cwL h g)
def R_law_due (ds : List PyData) (z : PyData) : Prop := ∃ (b : Bool) (ns : List Int) (b2 : Bool) (r : Ru), ds = [rows b (ns.map .int), ruD b2 r] ∧ (∀ c ∈ ns, 1 ≤ c ∧ c ≤ 100) ∧ ns.length ≤ 900 ∧ z = optT (dueF r 0 ns)
theorem u_law_end {t : Int} (h : EvD K te σ B (ruD b r)) (h2 : EvD K tf σ B (.int t)) : EvD K (tCall (spP K 2 R_law_end) [] E (tCons te (tCons tf tNil))) σ B (optD (limR r t)) := d_call (da_cons h (da_cons h2 da_nil)) (sp_P rfl ⟨b, r, t, rfl, rfl⟩)
theorem u_law_coins {h : Int} {g : Option Int} (e : EvD K te σ B (.int h)) (e2 : EvD K tf σ B (optD g)) (h1 : 1 ≤ h) (h2 : h ≤ 1000) : EvD K (tCall (spP K 2 R_law_coins) [] E (tCons te (tCons tf tNil))) σ B (optT (cwL h g)) := d_call (da_cons e (da_cons e2 da_nil)) (sp_P rfl ⟨h, g, rfl, h1, h2, rfl⟩)
theorem u_law_due {ns : List Int} (h : EvD K te σ B (rows b (ns.map .int))) (h2 : EvD K tf σ B (ruD b2 r)) (hc : ∀ c ∈ ns, 1 ≤ c ∧ c ≤ 100) (hl : ns.length ≤ 900) : EvD K (tCall (spP K 2 R_law_due) [] E (tCons te (tCons tf tNil))) σ B (optT (dueF r 0 ns)) :=
  d_call (da_cons h (da_cons h2 da_nil)) (sp_P rfl ⟨b, ns, b2, r, rfl, hc, hl, rfl⟩)
end
end Tk
end

section
set_option Elab.async false
set_option linter.all false
set_option maxRecDepth 100000
set_option maxHeartbeats 400000
/-! k04, the law's limits and coins, walked. -/
namespace Tk
open PySem PySem.Spec PyProof.Rows L2 Evl Tb
section
variable {P : Program} {w : World} {K : PySem.W.Frag} {mg : Str → Option Value} {base : Heap} {CX : CXT} {f : Addr} {fd : FuncData}
theorem H_law_end (bl : Bl mg) (F : FunD K "_law_end" "_law_end" (defArgs s_law_end) (defBody s_law_end) (defScope s_law_end) [] [] f fd) (hm : mg "_law_end" = some (.ref f)) :
    Has P w K mg base CX "_law_end" 1 ["_law_rule_here", "_law_high"] [] (spP K 2 R_law_end) := by
  refine has_mk F hm sc_law_end (spP_len rfl) (fun _ _ _ _ _ _ us hl => match us, hl with | [_, _], _ => rfl) fun cdv A outer s H vs Q E hr h => ?_
  obtain ⟨B, ds, z, x, hl, hd, ⟨b, r, t, rfl, rfl⟩, q⟩ := h
  match vs, hd with
  | [v1, v2], .cons h1 (.cons h2 .nil) =>
    refine ⟨_, (pss_cons (ps_if (pt_cmpR op_eq (pe_ix ix_row (pv 0) pe_int (fun _ _ => rfl)) pe_str (nomark _)) (pss_one (ps_ret pe_non)) pss_nil) (pss_cons (ps_if (pt_cmpR op_eq (pe_ix ix_row (pv 0) pe_int (fun _ _ => rfl)) pe_str (nomark _)) (pss_one (ps_ret (pe_ix ix_row (pv 0) pe_int (fun _ _ => rfl)))) pss_nil) (pss_one (ps_ret (pe_callB (call_minLI rfl hr.units) (by rfl) bl.min bb_min (pa_cons (pe_op op_cat (pe_lst (pa_cons (pe_op op_add (pv 1) pe_int) pa_nil)) (pe_callTy call_list_of (by rfl) bl.list bb_list (pa_cons (pe_slice sl_row (pv 0) (po_some pe_int) po_none) pa_nil))) pa_nil)))))), ?_⟩
    have word : ∀ (wd u : Str) (zs : List PyData) (σ : L2.St), σ[0]? = some (some v1) → Dp K B v1 (rows b (.str wd :: zs)) → EvT (tTest (tOp rEq (tOp (rIxR K) (tVar 0) (tC (.int 0))) (tC (.str u)))) σ B (decide (wd = u)) := fun wd u zs σ hv h1 => t_test (K := K) (d_op (d_op (d_var hv h1) d_int fun _ _ => rd_ix (e := .str wd) at_zero) d_str fun _ _ => rd_eq rfl)
    have last : ∀ (ms : List Int) (σ : L2.St), σ[0]? = some (some v1) → σ[1]? = some (some v2) → Dp K B v1 (rows b (.str "step" :: ms.map .int)) → ms.length ≤ 1 →
        EvD K (tCB (rMinL K) (tCons (tOp rCat (tLst (tCons (tOp (rI0 fun i j => .int (i + j)) (tVar 1) (tC (.int 1))) tNil)) (tCB (fun xs H Q => ∃ p ys, xs = [V.ref p] ∧ (SqL K H p ys ∨ SqT K H p ys) ∧ ∀ l, H l = none → Q (.ref l) (upd H l (.lst ys))) (tCons (tSl (rSlRow K) (tVar 0) (tPart (tC (.int 1))) tNoPart) tNil))) tNil)) σ B (.int (ms.foldl min (t + 1))) := fun ms σ hv hv2 h1 hms =>
      d_cb (ds := [.list ((((t + 1) :: ms) : List Int).map .int)]) (da_cons (dl_d (dl_cat (ds := [.int (t + 1)]) (dl_lst (da_cons (d_op (d_var hv2 h2) d_int fun _ _ => rd_int) da_nil) (by show 1 ≤ 100000; decide)) (dl_cb (da_cons (d_tail (d := .str "step") (d_var hv h1)) da_nil) fun _ _ => rcdl_list (b := b)) (by rw [List.length_map]; show 1 + ms.length ≤ 100000; omega))) da_nil) fun _ _ => rcd_minL
    cases r with
    | free =>
      refine qd_when (b := true) x (word "free" "free" [] _ rfl h1) (fun _ H1 e1 => ?_) fun z => Bool.noConfusion z
      exact sd_ret (K := K) (x.trans e1) d_non fun v G H3 g hv => q v G H3 ((Gr.ex x e1).trans g) hv
    | cap n =>
      refine qd_no x (word "cap" "free" _ _ rfl h1) fun H1 e1 => qd_when (b := true) (x.trans e1) (word "cap" "cap" _ _ rfl h1) (fun _ H2 e2 => ?_) fun z => Bool.noConfusion z
      exact sd_ret (K := K) (d := .int n) ((x.trans e1).trans e2) (d_op (d_var rfl h1) d_int fun _ _ => rd_ix (b := b) rfl) fun v G H3 g hv => q v G H3 ((Gr.ex x (e1.trans e2)).trans g) hv
    | step =>
      refine qd_no x (word "step" "free" _ _ rfl h1) fun H1 e1 => qd_no (x.trans e1) (word "step" "cap" _ _ rfl h1) fun H2 e2 => ?_
      exact sd_ret (K := K) (d := .int (t + 1)) ((x.trans e1).trans e2) (last [] _ rfl rfl h1 (Nat.zero_le _)) fun v G H4 g hv => q v G H4 ((Gr.ex x (e1.trans e2)).trans g) hv
    | stepc n =>
      refine qd_no x (word "step" "free" _ _ rfl h1) fun H1 e1 => qd_no (x.trans e1) (word "step" "cap" _ _ rfl h1) fun H2 e2 => ?_
      exact sd_ret (K := K) (d := .int (min (t + 1) n)) ((x.trans e1).trans e2) (last [n] _ rfl rfl h1 (Nat.le_refl 1)) fun v G H4 g hv => q v G H4 ((Gr.ex x (e1.trans e2)).trans g) hv
theorem H_law_coins (bl : Bl mg) (F : FunD K "_law_coins" "_law_coins" (defArgs s_law_coins) (defBody s_law_coins) (defScope s_law_coins) [] [] f fd) (hm : mg "_law_coins" = some (.ref f)) :
    Has P w K mg base CX "_law_coins" 1 ["_law_height", "_law_end_here"] [] (spP K 2 R_law_coins) := by
  refine has_mk F hm sc_law_coins (spP_len rfl) (fun _ _ _ _ _ _ us hl => match us, hl with | [_, _], _ => rfl) fun cdv A outer s H vs Q E hr h => ?_
  obtain ⟨B, ds, z, x, hl, hd, ⟨h, g, rfl, h1l, h2l, rfl⟩, q⟩ := h
  match vs, hd with
  | [v1, v2], .cons h1 (.cons h2 .nil) =>
    refine ⟨_, (pss_cons (ps_if (PW.pt (pw_and (pt_cmpR op_notN (pv 1) pe_non (nomark _)) (pw_and1 (pt_cmpR op_gt (pv 0) (pv 1) (nomark _))))) (pss_one (ps_ret pe_non)) pss_nil) (pss_one (ps_ret (pe_op op_catA (pe_op op_repA (pe_tup (pa_cons pe_int pa_nil)) (pe_op op_sub (pv 0) pe_int)) (pe_op op_repA (pe_tup (pa_cons pe_int pa_nil)) (pe_callTy call_int1 (by rfl) bl.int bb_int (pa_cons (pe_cmpR op_ne (pv 0) (pv 1) (nomark _)) pa_nil))))))), ?_⟩
    have frep : ∀ (c : Int) (n : Nat), (List.replicate n [PyData.int c]).flatten = (List.replicate n c).map .int := fun c n => by
      induction n with
      | zero => rfl
      | succ n ih => rw [List.replicate_succ, List.flatten_cons, ih]; rfl
    have rest : ∀ (k : Bool) (H1 : Hp), Ex H H1 → eqS (.int h) (optD g) = k → scalD (.int h) (optD g) = true → optT (cwL h g) = .tuple ((List.replicate (h - 1).toNat (1 : Int) ++ (if k = true then [] else [0])).map .int) →
        tRet (tOp (rCatA K) (tOp (rRepA K) (tTup (tCons (tC (.int 1)) tNil)) (tOp (rI0 fun i j => .int (i - j)) (tVar 0) (tC (.int 1)))) (tOp (rRepA K) (tTup (tCons (tC (.int 0)) tNil)) (tCB (fun xs H Q => (∃ i, xs = [V.int i] ∧ Q (.int i) H) ∨ ∃ k, xs = [V.bl k] ∧ Q (.int (if k then 1 else 0)) H) (tCons (tOp rNe (tVar 0) (tVar 1)) tNil))))
          { nx := fun _ H' => Q .non H', rt := Q } [some v1, some v2] H1 := fun k H1 e1 hk hs ho => by
      refine sd_ret (K := K) (d := optT (cwL h g)) (x.trans e1) (d_is (d_op (d := .tuple ((List.replicate (h - 1).toNat (1 : Int)).map .int)) (e := .tuple (((if k = true then [] else [0]) : List Int).map .int)) (d_is (d_op (d_tup (ds := [.int 1]) (da_cons d_int da_nil) (by show 1 ≤ 100000; decide)) (d_op (d_var rfl h1) d_int fun _ _ => rd_int) fun _ _ => rd_repA (by simp) (by omega) (by omega) (by show 1 ≤ 1000; decide)) (by rw [frep]))
        (d_is (d_op (d_tup (ds := [.int 0]) (da_cons d_int da_nil) (by show 1 ≤ 100000; decide)) (d_cb (da_cons (d_op (d := .int h) (e := optD g) (d_var rfl h1) (d_var rfl h2) fun _ _ => rd_ne hs) da_nil) fun _ _ => rcd_intB) fun _ _ => rd_repA (by simp) (by split <;> omega) (by split <;> omega) (by show 1 ≤ 1000; decide)) ?_) fun _ _ => rd_catA ?_) ?_) fun v G H4 g4 hv => q v G H4 ((Gr.ex x e1).trans g4) hv
      · rw [hk, frep]
        cases k <;> rfl
      · rw [List.length_map, List.length_map, List.length_replicate]
        cases k
        · show _ + 1 ≤ _
          omega
        · show _ + 0 ≤ _
          omega
      · rw [ho, List.map_append]
    cases g with
    | none =>
      refine qd_no x (et_is (et_and (a := false) (b := true) (t_test (K := K) (d_op (d_var rfl h2) d_non fun _ _ => rd_notN)) fun z => Bool.noConfusion z) rfl) fun H1 e1 => rest false H1 e1 rfl rfl rfl
    | some l =>
      have key := et_and (t_test (K := K) (d_op (d_var (σ := [some v1, some v2]) (i := 1) rfl h2) d_non fun _ _ => rd_notN)) fun _ => t_test (K := K) (d_op (d_var (i := 0) rfl h1) (d_var (i := 1) rfl h2) fun _ _ => rd_cmp (g := fun i j => decide (i > j)))
      by_cases c : l < h
      · refine qd_when (b := true) x (et_is key (by show (true && decide (h > l)) = true; rw [decide_eq_true (by omega)]; rfl)) (fun _ H1 e1 => ?_) fun z => Bool.noConfusion z
        refine sd_ret (K := K) (x.trans e1) (d_is d_non ?_) fun v G H4 g4 hv => q v G H4 ((Gr.ex x e1).trans g4) hv
        show _ = optT (if l < h then none else some (List.replicate (h - 1).toNat 1 ++ (if h = l then [] else [0])))
        rw [if_pos c]
        rfl
      · refine qd_no x (et_is key (by show (true && decide (h > l)) = false; rw [decide_eq_false (by omega)]; rfl)) fun H1 e1 => rest (decide (h = l)) H1 e1 rfl rfl ?_
        show optT (if l < h then none else some (List.replicate (h - 1).toNat 1 ++ (if h = l then [] else [0]))) = _
        rw [if_neg c]
        by_cases c2 : h = l
        · rw [if_pos c2, decide_eq_true c2]
          rfl
        · rw [if_neg c2, decide_eq_false c2]
          rfl
theorem H_law_due (bl : Bl mg) (nx : NoY CX) (G_law_end : Has P w K mg base CX "_law_end" 1 ["_law_rule_here", "_law_high"] [] (spP K 2 R_law_end)) (G_law_coins : Has P w K mg base CX "_law_coins" 1 ["_law_height", "_law_end_here"] [] (spP K 2 R_law_coins))
    (F : FunD K "_law_due" "_law_due" (defArgs s_law_due) (defBody s_law_due) (defScope s_law_due) [] [] f fd) (hm : mg "_law_due" = some (.ref f)) :
    Has P w K mg base CX "_law_due" 2 ["_law_row_so", "_law_rule_here"] [] (spP K 2 R_law_due) := by
  refine has_mk F hm sc_law_due (spP_len rfl) (fun _ _ _ _ _ _ us hl => match us, hl with | [_, _], _ => rfl) fun cdv A outer s H vs Q E hr h => ?_
  obtain ⟨B, ds, z, x, hl, hd, ⟨b, ns, b2, r, rfl, hns, hlen, rfl⟩, q⟩ := h
  match vs, hd with
  | [v1, v2], .cons h1 (.cons h2 .nil) =>
    refine ⟨_, (pss_cons (ps_asg (pe_tup (pa_cons (pe_tup pa_nil) (pa_cons pe_int pa_nil))) (pg_row rfl (pgs_cons (pg_name (i := 2) sc_law_due.nd rfl (by first | exact .inl rfl | exact .inr rfl)) (pgs_cons (pg_name (i := 3) sc_law_due.nd rfl (by first | exact .inl rfl | exact .inr rfl)) pgs_nil)))) (pss_cons (ps_for PassesOwn.never rfl (pi_row (pv 0)) (pg_name (i := 4) sc_law_due.nd rfl (by first | exact .inl rfl | exact .inr rfl)) (pss_cons (ps_set (i := 5) sc_law_due.nd rfl (by first | exact .inl rfl | exact .inr rfl) (pe_has G_law_coins (hr.mono (by decide)) (by rfl) (pa_cons (pv 4) (pa_cons (pe_has G_law_end (hr.mono (by decide)) (by rfl) (pa_cons (pv 1) (pa_cons (pv 3) pa_nil)) (nx _)) pa_nil)) (nx _))) (pss_cons (ps_if (pt_cmpR op_isN (pv 5) pe_non (nomark _)) (pss_one (ps_ret pe_non)) pss_nil) (pss_one (ps_par (i := 2) (j := 3) (by rfl) sc_law_due.nd rfl rfl (by decide) rfl rfl (pa_cons (pe_op op_catA (pv 2) (pv 5)) (pa_cons (pe_callB (call_max2 rfl) (by rfl) bl.max bb_max (pa_cons (pv 3) (pa_cons (pv 4) pa_nil))) pa_nil)) (by rfl)))))) (pss_one (ps_ret (pv 2))))), ?_⟩
    refine qd_pair (K := K) (b := false) (d := .tuple []) (e := .int 0) x (d_tup (da_cons (d_tup da_nil (Nat.zero_le _)) (da_cons d_int da_nil)) (by show 2 ≤ 100000; decide)) fun vt vi G0 H0 g0 hvt hvi => ?_
    rw [hvi.int_of]
    refine qd_for (K := K) (G := B) (b := b) (ds := ns.map .int) (j := 0) (g0.hg.trans g0.g2) h1 rfl (fun i σ' H' => ∃ (t : Int) (vt : V) (a4 a5 : Option V), σ' = [some v1, some v2, some vt, some (.int t), a4, a5] ∧ ∃ (G : Hp) (cs : List Int), Gr B H G H' ∧ Dp K G vt (.tuple (cs.map .int)) ∧ cs.length ≤ i * 100 ∧ dueF r 0 ns = joinO cs (dueF r t (ns.drop i)))
      ⟨0, vt, _, _, rfl, G0, [], g0, hvt, Nat.zero_le _, (joinO_nil _).symm⟩ ?_ ?_ ?_
    · rintro i σ' H' _ ⟨t, vt, a4, a5, rfl, G, cs, g, _⟩
      exact g.hg.trans g.g2
    · rintro i d y σ' H' hi hy ⟨t, vt, a4, a5, rfl, G, cs, g, hvt, hcl, hdue⟩
      rw [List.getElem?_map] at hi
      obtain ⟨h, hih, rfl⟩ := Option.map_eq_some_iff.mp hi
      obtain ⟨hi1, hi2⟩ := List.getElem?_eq_some_iff.mp hih
      have hb := hns h (List.mem_of_getElem? hih)
      rw [List.drop_eq_getElem_cons hi1, hi2] at hdue
      rw [hy.int_of]
      have h2G := dp_mono g.hg h2
      refine qd_asg (K := K) g.g2 (u_law_coins (h := h) (d_var rfl (.int h)) (u_law_end (t := t) (d_var rfl h2G) (d_var rfl (.int t))) hb.1 (by omega)) fun vc G5 H5 g5 hvc => ?_
      have g5' := g.trans g5
      cases hc : cwL h (limR r t) with
      | none =>
        rw [hc] at hvc
        refine qd_when (b := true) g5.g2 (t_test (K := K) (d_op (d_var rfl hvc) d_non fun _ _ => rd_isN)) (fun _ H6 e6 => ?_) fun z => Bool.noConfusion z
        rw [dueF_none hc] at hdue
        rw [hdue] at q
        exact sd_ret (K := K) (g5.g2.trans e6) d_non fun v G7 H7 g7 hv => q v G7 H7 (g5'.trans ((Gr.ex g5.g2 e6).trans g7)) hv
      | some c =>
        rw [hc] at hvc
        rw [dueF_cons hc, joinO_join] at hdue
        have hcn := cwL_len hc hb.1 hb.2
        refine qd_no g5.g2 (t_test (K := K) (d_op (d := .tuple (c.map .int)) (d_var rfl hvc) d_non fun _ _ => rd_isN)) fun H6 e6 => ?_
        have g6 := g5'.trans (Gr.ex g5.g2 e6)
        refine sd_par2 (K := K) g6.g2 (d_op (d_var rfl (dp_mono g5.hg hvt)) (d_var rfl hvc) fun _ _ => rd_catA (by rw [List.length_map, List.length_map]; omega)) (d_cb (da_cons (d_var rfl (.int t)) (da_cons (d_var rfl (.int h)) da_nil)) fun _ _ => rcd_max2) fun v w' G8 H8 g8 hv hw' => ?_
        rw [hw'.int_of]
        refine ⟨max t h, v, _, _, rfl, G8, cs ++ c, g6.trans g8, ?_, by rw [List.length_append]; omega, hdue⟩
        rw [List.map_append]
        exact hv
    · rintro σ' H' ⟨t, vt, a4, a5, rfl, G, cs, g, hvt, hcl, hdue⟩
      rw [List.length_map, List.drop_length] at hdue
      rw [hdue] at q
      refine sd_ret (K := K) g.g2 (d_var rfl hvt) fun v G7 H7 g7 hv => q v G7 H7 (g.trans g7) ?_
      show Dp K G7 v (.tuple ((cs ++ []).map .int))
      rw [List.append_nil]
      exact hv
end
end Tk
end

section
set_option Elab.async false
set_option linter.all false
set_option maxRecDepth 100000
set_option maxHeartbeats 400000
/-! k04, the law's rules and heights, drawn. -/
namespace Tk
open PySem PySem.Spec PyProof.Rows L2 Evl Tb
abbrev s_law_rule : Stmt := topS 33
abbrev n_law_rule : List Str := ["_law_source", "_law_cap"]
theorem sc_law_rule : FnScope n_law_rule ["_law_source"] (defScope s_law_rule) := ⟨rfl, rfl, rfl, by decide +kernel, rfl, by decide +kernel, by decide +kernel⟩

abbrev s_law_heights : Stmt := topS 36
abbrev n_law_heights : List Str := ["_law_source", "_law_rule_here", "_law_found", "_law_high", "_law_k", "_law_end_here", "_law_height"]
theorem sc_law_heights : FnScope n_law_heights ["_law_source", "_law_rule_here"] (defScope s_law_heights) := ⟨rfl, rfl, rfl, by decide +kernel, rfl, by decide +kernel, by decide +kernel⟩

theorem one_ex {H : Hp} {p : Addr} {o : HO} (h : H p = some o) : Ex (upd (fun _ => none) p o) H := fun b u e => by
  by_cases c : b = p
  · subst c
    rw [upd_same] at e
    cases e
    exact h
  · rw [upd_ne c] at e
    cases e
theorem one_ne {p a : Addr} {o : HO} (h : a ≠ p) : (upd (fun _ => none) p o : Hp) a = none := by rw [upd_ne h]
theorem GrA.next {a : Addr} {B H G H1 H2 : Hp} (g : GrA a B H G H1) (ga : G a = none) (hs : H1 a ≠ none) (e : Exa a H1 H2) : GrA a B H G H2 := g.trans (GrA.turn g.g2 ga e) hs
theorem GrA.free {a : Addr} {B H G H1 : Hp} (g : GrA a B H G H1) (ba : B a = none) (hs : H a ≠ none) : G a = none := g.sep a ba hs
theorem GrA.mut {a : Addr} {B H G H1 : Hp} {l : Addr} {o : HO} (g : GrA a B H G H1) (g0 : G l = none) (h0 : H l = none) : GrA a B H G (upd H1 l o) :=
  ⟨g.hg, Ex.mut g.g2 g0, fun b u hb hu => by rw [upd_ne (ne_of_none hu h0)]; exact g.h12 b u hb hu, g.sep⟩
theorem limR_pos {r : Ru} {t l : Int} (ok : okR r) (ht : 0 ≤ t) (h : limR r t = some l) : 1 ≤ l := by
  cases r with
  | free => cases h
  | step =>
    cases h
    omega
  | cap n =>
    cases h
    exact ok.1
  | stepc n =>
    have := ok.1
    cases h
    omega
def spRule (K : PySem.W.Frag) : Sp := fun vs H Q _ => ∃ (a : Addr) (B : Hp), vs = [.ref a] ∧ Ex B H ∧ B a = none ∧ SrcAt H a ∧ ∀ (b : Bool) (r : Ru) (v : V) (G H' : Hp), okR r → GrA a B H G H' → SrcAt H' a → Dp K G v (ruD b r) → Q v H'
def spHeights (K : PySem.W.Frag) : Sp := fun vs H Q _ => ∃ (a : Addr) (v2 : V) (B : Hp) (b : Bool) (r : Ru), vs = [.ref a, v2] ∧ Ex B H ∧ B a = none ∧ SrcAt H a ∧ Dp K B v2 (ruD b r) ∧ okR r ∧
  ∀ (ns : List Int) (p : Addr) (H' : Hp), (∀ c ∈ ns, 1 ≤ c ∧ c ≤ 100) → ns.length ≤ 14 → GrA a B H B H' → SrcAt H' a → H p = none → H' p = some (.lst (ns.map V.int)) → Q (.ref p) H'
section
variable {P : Program} {w : World} {K : PySem.W.Frag} {mg : Str → Option Value} {base : Heap} {CX : CXT} {f : Addr} {fd : FuncData}
theorem H_law_rule (nx : NoY CX) (G_law_one : Has P w K mg base CX "_law_one" 2 ["_law_source", "_law_some"] [] (spOne K))
    (F : FunD K "_law_rule" "_law_rule" (defArgs s_law_rule) (defBody s_law_rule) (defScope s_law_rule) [] [] f fd) (hm : mg "_law_rule" = some (.ref f)) :
    Has P w K mg base CX "_law_rule" 3 ["_law_source"] [] (spRule K) := by
  refine has_mk F hm sc_law_rule (fun vs H Q E h => by obtain ⟨a, B, rfl, _⟩ := h; rfl) (fun _ _ _ _ _ _ us hl => match us, hl with | [_], _ => rfl) fun cdv A outer s H vs Q E hr h => ?_
  obtain ⟨a, B, rfl, x, ba, hs, q⟩ := h
  refine ⟨_, (pss_cons (ps_set (i := 1) sc_law_rule.nd rfl (by first | exact .inl rfl | exact .inr rfl) (pe_has G_law_one (hr.mono (by decide)) (by rfl) (pa_cons (pv 0) (pa_cons (pe_lst (pa_cons pe_int (pa_cons pe_int (pa_cons pe_int (pa_cons pe_int (pa_cons pe_int (pa_cons pe_int (pa_cons pe_int pa_nil)))))))) pa_nil)) (nx _))) (pss_one (ps_ret (pe_has G_law_one (hr.mono (by decide)) (by rfl) (pa_cons (pv 0) (pa_cons (pe_lst (pa_cons (pe_tup (pa_cons pe_str pa_nil)) (pa_cons (pe_tup (pa_cons pe_str pa_nil)) (pa_cons (pe_tup (pa_cons pe_str (pa_cons (pv 1) pa_nil))) (pa_cons (pe_lst (pa_cons pe_str (pa_cons (pv 1) pa_nil))) (pa_cons (pe_tup (pa_cons pe_str (pa_cons (pv 1) pa_nil))) (pa_cons (pe_lst (pa_cons pe_str pa_nil)) (pa_cons (pe_lst (pa_cons pe_str (pa_cons (pv 1) pa_nil))) pa_nil)))))))) pa_nil)) (nx _))))), ?_⟩
  have hna := hs.ne
  refine ⟨_, rfl, by show 7 ≤ sizeLine; decide, fun p hp => ?_⟩
  have pa : a ≠ p := fun z => by subst z; exact hna hp
  refine ⟨a, .ref p, _, true, ([1, 2, 3, 3, 5, 8, 64] : List Int).map .int, rfl, one_ex upd_same, one_ne pa, hs.mono (Ex.new hp), .lst (sq_of upd_same) (DpAll.of_ints [1, 2, 3, 3, 5, 8, 64]), by show 0 < 7; decide, by show 7 ≤ 1000; decide, fun d v H2 hd hv e2 s2 => ?_⟩
  obtain ⟨c, hc, rfl⟩ := List.mem_map.mp hd
  have hc1 : 1 ≤ c ∧ c ≤ 64 := by
    simp only [List.mem_cons, List.not_mem_nil, or_false] at hc
    omega
  rw [hv.int_of]
  have g1 : GrA a B H B H2 := (GrA.of (Gr.mut x hp)).next ba ((hs.mono (Ex.new hp)).ne) e2
  refine ⟨_, rfl, ?_⟩
  refine (dl_lst (K := K) (ds := [ruD false .free, ruD false .step, ruD false (.cap c), ruD true (.cap c), ruD false (.stepc c), ruD true .free, ruD true (.stepc c)])
    (da_cons (d_tup (da_cons d_str da_nil) (by show 1 ≤ 100000; decide)) (da_cons (d_tup (da_cons d_str da_nil) (by show 1 ≤ 100000; decide)) (da_cons (d_tup (da_cons d_str (da_cons (d_var rfl (.int c)) da_nil)) (by show 2 ≤ 100000; decide)) (da_cons (dl_d (dl_lst (da_cons d_str (da_cons (d_var rfl (.int c)) da_nil)) (by show 2 ≤ 100000; decide)))
      (da_cons (d_tup (da_cons d_str (da_cons (d_var rfl (.int c)) da_nil)) (by show 2 ≤ 100000; decide)) (da_cons (dl_d (dl_lst (da_cons d_str da_nil) (by show 1 ≤ 100000; decide))) (da_cons (dl_d (dl_lst (da_cons d_str (da_cons (d_var rfl (.int c)) da_nil)) (by show 2 ≤ 100000; decide))) da_nil))))))) (by show 7 ≤ 100000; decide)) H2 g1.g2 _ fun p2 xs G H3 g0 h0 g hp2 hxs => ?_
  have p2a : a ≠ p2 := fun z => by subst z; exact s2.ne h0
  have gf := gr_freeze g0 h0 g hp2
  have gA := g1.trans (GrA.of gf) s2.ne
  have ga := gA.free ba hna
  refine ⟨a, .ref p2, _, true, _, rfl, gA.g2, ga, s2.mono g.h12, dp_freeze g0 hxs, by show 0 < 7; decide, by show 7 ≤ 1000; decide, fun d v H4 hd hv e4 s4 => ?_⟩
  have gE := gA.next ga ((s2.mono g.h12).ne) e4
  have fin : ∀ b r, okR r → d = ruD b r → Q v H4 := fun b r ok e => by
    subst e
    exact q b r v _ H4 ok gE s4 hv
  simp only [List.mem_cons, List.not_mem_nil, or_false] at hd
  rcases hd with e | e | e | e | e | e | e
  · exact fin false .free trivial e
  · exact fin false .step trivial e
  · exact fin false (.cap c) hc1 e
  · exact fin true (.cap c) hc1 e
  · exact fin false (.stepc c) hc1 e
  · exact fin true .free trivial e
  · exact fin true (.stepc c) hc1 e
theorem H_law_heights (bl : Bl mg) (nx : NoY CX) (G_law_next : Has P w K mg base CX "_law_next" 1 ["_law_source", "_law_many"] [] spNext) (G_law_one : Has P w K mg base CX "_law_one" 2 ["_law_source", "_law_some"] [] (spOne K))
    (G_law_end : Has P w K mg base CX "_law_end" 1 ["_law_rule_here", "_law_high"] [] (spP K 2 R_law_end))
    (F : FunD K "_law_heights" "_law_heights" (defArgs s_law_heights) (defBody s_law_heights) (defScope s_law_heights) [] [] f fd) (hm : mg "_law_heights" = some (.ref f)) :
    Has P w K mg base CX "_law_heights" 3 ["_law_source", "_law_rule_here"] [] (spHeights K) := by
  refine has_mk F hm sc_law_heights (fun vs H Q E h => by obtain ⟨a, v2, B, b, r, rfl, _⟩ := h; rfl) (fun _ _ _ _ _ _ us hl => match us, hl with | [_, _], _ => rfl) fun cdv A outer s H vs Q E hr h => ?_
  obtain ⟨a, v2, B, b, r, rfl, x, ba, hs, h2, ok, q⟩ := h
  refine ⟨_, (pss_cons (ps_par (i := 2) (j := 3) (by rfl) sc_law_heights.nd rfl rfl (by decide) rfl rfl (pa_cons (pe_lst pa_nil) (pa_cons pe_int pa_nil)) (by rfl)) (pss_cons (ps_for PassesOwn.never rfl (pi_range1 rfl bl.range (pa_cons (pe_has G_law_next (hr.mono (by decide)) (by rfl) (pa_cons (pv 0) (pa_cons pe_int pa_nil)) (nx _)) pa_nil)) (pg_name (i := 4) sc_law_heights.nd rfl (by first | exact .inl rfl | exact .inr rfl)) (pss_cons (ps_set (i := 5) sc_law_heights.nd rfl (by first | exact .inl rfl | exact .inr rfl) (pe_has G_law_end (hr.mono (by decide)) (by rfl) (pa_cons (pv 1) (pa_cons (pv 3) pa_nil)) (nx _))) (pss_cons (ps_set (i := 6) sc_law_heights.nd rfl (by first | exact .inl rfl | exact .inr rfl) (pe_op op_add pe_int (pe_has G_law_one (hr.mono (by decide)) (by rfl) (pa_cons (pv 0) (pa_cons (pe_lst (pa_cons pe_int (pa_cons pe_int (pa_cons pe_int (pa_cons pe_int (pa_cons pe_int (pa_cons pe_int (pa_cons pe_int pa_nil)))))))) pa_nil)) (nx _)))) (pss_cons (ps_if (PW.pt (pw_and (pt_cmpR op_notN (pv 5) pe_non (nomark _)) (pw_and1 (pt_cmpR op_gt (pe_has G_law_next (hr.mono (by decide)) (by rfl) (pa_cons (pv 0) (pa_cons pe_int pa_nil)) (nx _)) pe_int (nomark _))))) (pss_one (ps_set (i := 6) sc_law_heights.nd rfl (by first | exact .inl rfl | exact .inr rfl) (pe_callB (call_min2 rfl) (by rfl) bl.min bb_min (pa_cons (pv 6) (pa_cons (pv 5) pa_nil))))) pss_nil) (pss_cons (ps_expr (pe_bm PySem.F.plainAttrs_list PySem.F.slot_list_append PySem.F.type_list_append mt_append (pv 2) (pa_cons (pv 6) pa_nil))) (pss_one (ps_set (i := 3) sc_law_heights.nd rfl (by first | exact .inl rfl | exact .inr rfl) (pe_callB (call_max2 rfl) (by rfl) bl.max bb_max (pa_cons (pv 3) (pa_cons (pv 6) pa_nil)))))))))) (pss_one (ps_ret (pv 2))))), ?_⟩
  have hna := hs.ne
  refine ⟨by show 0 ≤ sizeLine; decide, fun lf hlf => ⟨_, _, rfl, ?_⟩⟩
  have lfa : lf ≠ a := fun z => by subst z; exact hna hlf
  have g0 : GrA a B H B (upd H lf (.lst [])) := GrA.of (Gr.mut x hlf)
  refine ⟨_, rfl, a, 14, rfl, hs.mono (Ex.new hlf), by decide, by decide, fun n H2 n0 n1 e2 s2 => ⟨n, rfl, by omega, Int.lt_of_lt_of_le n1 (by decide), ?_⟩⟩
  have g2 := g0.next ba ((hs.mono (Ex.new hlf)).ne) e2
  have l2 : H2 lf = some (.lst []) := e2 lf _ lfa upd_same
  have bl0 : B lf = none := fresh_back x hlf
  refine for_range (fun i σ' H' => ∃ (t : Int) (a4 a5 a6 : Option V), σ' = [some (.ref a), some v2, some (.ref lf), some (.int t), a4, a5, a6] ∧ 0 ≤ t ∧ ∃ ns : List Int, ns.length = i ∧ (∀ c ∈ ns, 1 ≤ c ∧ c ≤ 100) ∧ GrA a B H B H' ∧ SrcAt H' a ∧ H' lf = some (.lst (ns.map V.int)))
    ⟨0, _, _, _, rfl, Int.le_refl 0, [], rfl, (fun c hc => by cases hc), g2, s2, l2⟩ ?_ ?_
  · rintro i σ' H' hi ⟨t, a4, a5, a6, rfl, t0, ns, hl, hns, g, sa, hlf2⟩
    refine qd_asg (K := K) (d := optD (limR r t)) g.g2 (u_law_end (d_var rfl h2) (d_var rfl (.int t))) fun ve G3 H3 g3 hve => ?_
    have gb : GrA a B H B H3 := g.next ba sa.ne (.of g3.h12)
    have s3 := sa.mono g3.h12
    have l3 := g3.h12 _ _ hlf2
    -- height
    refine ⟨_, rfl, by show 7 ≤ sizeLine; decide, fun p hp => ?_⟩
    have pa : a ≠ p := fun z => by subst z; exact s3.ne hp
    refine ⟨a, .ref p, _, true, ([0, 0, 1, 1, 2, 3, 9] : List Int).map .int, rfl, one_ex upd_same, one_ne pa, s3.mono (Ex.new hp), .lst (sq_of upd_same) (DpAll.of_ints [0, 0, 1, 1, 2, 3, 9]), by show 0 < 7; decide, by show 7 ≤ 1000; decide, fun d v H4 hd hv e4 s4 => ?_⟩
    obtain ⟨u, hu, rfl⟩ := List.mem_map.mp hd
    have hu0 : 0 ≤ u ∧ u ≤ 9 := by
      simp only [List.mem_cons, List.not_mem_nil, or_false] at hu
      omega
    rw [hv.int_of]
    refine ⟨1, u, rfl, rfl, ?_⟩
    have gc := gb.next ba s3.ne ((Exa.of (Ex.new hp)).trans e4)
    have l4 : H4 lf = some (.lst (ns.map V.int)) := e4 lf _ lfa (Ex.new hp _ _ l3)
    -- what comes behind the test
    have rest : ∀ (h : Int) (H5 : Hp), 1 ≤ h → h ≤ 100 → GrA a B H B H5 → SrcAt H5 a → H5 lf = some (.lst (ns.map V.int)) → ∀ D : Ends, (∀ σ' H', (∃ (t : Int) (a4 a5 a6 : Option V), σ' = [some (.ref a), some v2, some (.ref lf), some (.int t), a4, a5, a6] ∧ 0 ≤ t ∧ ∃ ns : List Int, ns.length = i + 1 ∧ (∀ c ∈ ns, 1 ≤ c ∧ c ≤ 100) ∧ GrA a B H B H' ∧ SrcAt H' a ∧ H' lf = some (.lst (ns.map V.int))) → D.nx σ' H') →
        tSeq (tDrop (tBM K "list" rAppend (tVar 2) (tCons (tVar 6) tNil))) (tAsg (tCB (fun xs H Q => ∃ i j, xs = [V.int i, .int j] ∧ Q (.int (if j > i then j else i)) H) (tCons (tVar 3) (tCons (tVar 6) tNil))) (gName 3)) D [some (.ref a), some v2, some (.ref lf), some (.int t), some (.int (0 + (i : Int))), some ve, some (.int h)] H5 := fun h H5 h1 h9 g5 s5 l5 D k => by
      refine ⟨_, rfl, .inl ⟨rfl, _, sq_of l5⟩, _, rfl, lf, _, _, rfl, rfl, l5, sz_lt (by rw [List.length_map]; omega), ?_⟩
      refine ⟨_, rfl, _, rfl, t, h, rfl, ?_⟩
      refine k _ _ ⟨_, _, _, _, rfl, by split <;> omega, ns ++ [h], by rw [List.length_append, hl]; rfl, fun c hc => ?_, g5.mut bl0 hlf, ?_, by rw [upd_same, List.map_append]; rfl⟩
      · rcases List.mem_append.mp hc with hc | hc
        · exact hns c hc
        · rw [List.mem_singleton.mp hc]
          exact ⟨h1, h9⟩
      · obtain ⟨z0, z1, z2, hz⟩ := s5
        exact ⟨z0, z1, z2, by rw [upd_ne lfa.symm]; exact hz⟩
    cases hlim : limR r t with
    | none =>
      rw [hlim] at hve
      rw [hve.non_of] at rest ⊢
      exact ⟨_, rfl, rfl, false, rfl, rest _ H4 (by omega) (by omega) gc s4 l4 _ fun _ _ z => z⟩
    | some l =>
      rw [hlim] at hve
      rw [Dp.int_of (i := l) hve] at rest ⊢
      have hl1 := limR_pos ok t0 hlim
      refine ⟨_, rfl, rfl, true, rfl, ?_⟩
      refine ⟨_, rfl, a, 12, rfl, s4, by decide, by decide, fun rr H5 _ _ e5 s5 => ⟨rr, 0, rfl, rfl, _, rfl, ?_⟩⟩
      have gd := gc.next ba s4.ne e5
      have l5 : H5 lf = some (.lst (ns.map V.int)) := e5 lf _ lfa l4
      by_cases c : rr > 0
      · rw [decide_eq_true c]
        refine ⟨_, rfl, _, rfl, 1 + u, l, rfl, ?_⟩
        exact rest _ H5 (by split <;> omega) (by split <;> omega) gd s5 l5 _ fun _ _ z => z
      · rw [decide_eq_false c]
        exact rest _ H5 (by omega) (by omega) gd s5 l5 _ fun _ _ z => z
  · rintro σ' H' ⟨t, a4, a5, a6, rfl, t0, ns, hl, hns, g, sa, hlf2⟩
    exact ⟨_, rfl, q ns lf H' hns (by omega) g sa hlf hlf2⟩
end
end Tk
end

section
set_option Elab.async false
set_option linter.all false
set_option maxRecDepth 100000
set_option maxHeartbeats 400000
/-! k04, data held against data; heights without those that want no coin. -/
namespace Tk
open PySem PySem.Spec PyProof.Rows L2 Evl Tb
abbrev s_law_bare : Stmt := topS 38
abbrev n_law_bare : List Str := ["_law_row_so", "_law_rule_here", "_law_found"]
theorem sc_law_bare : FnScope n_law_bare ["_law_row_so", "_law_rule_here"] (defScope s_law_bare) := ⟨rfl, rfl, rfl, by decide +kernel, rfl, by decide +kernel, by decide +kernel⟩

/-- ints, bools, None, and rows of them, n deep -/
def okD : Nat → PyData → Bool
  | _, .none => true
  | _, .bool _ => true
  | _, .int _ => true
  | n + 1, .list xs => xs.all (okD n)
  | n + 1, .tuple xs => xs.all (okD n)
  | _, _ => false
theorem okD_out : ∀ (n : Nat) (d : PyData), okD n d = true → d.canLay0 = true ∧ d.depth ≤ n ∧ PyData.eqv d d = true := by
  intro n
  induction n with
  | zero =>
    intro d h
    cases d <;> first | (exfalso; exact Bool.noConfusion (show false = true from h)) | (refine ⟨?_, ?_, ?_⟩ <;> simp [PyData.canLay0, PyData.depth, PyData.eqv])
  | succ n ih =>
    have all : ∀ xs : List PyData, xs.all (okD n) = true → PyData.canLayAll0 xs = true ∧ PyData.depthAll xs ≤ n ∧ PyData.eqvAll xs xs = true := fun xs => by
      induction xs with
      | nil => exact fun _ => by simp [PyData.canLayAll0, PyData.depthAll, PyData.eqvAll]
      | cons x xs ihx =>
        intro h
        rw [List.all_cons, Bool.and_eq_true] at h
        obtain ⟨h1, h2, h3⟩ := ih x h.1
        obtain ⟨i1, i2, i3⟩ := ihx h.2
        refine ⟨by simp [PyData.canLayAll0, h1, i1], ?_, by simp [PyData.eqvAll, h3, i3]⟩
        simp only [PyData.depthAll]
        omega
    intro d h
    cases d with
    | none => refine ⟨?_, ?_, ?_⟩ <;> simp [PyData.canLay0, PyData.depth, PyData.eqv]
    | bool b => refine ⟨?_, ?_, ?_⟩ <;> simp [PyData.canLay0, PyData.depth, PyData.eqv]
    | int i => refine ⟨?_, ?_, ?_⟩ <;> simp [PyData.canLay0, PyData.depth, PyData.eqv]
    | str x => exact Bool.noConfusion (show false = true from h)
    | dict x => exact Bool.noConfusion (show false = true from h)
    | list xs =>
      obtain ⟨i1, i2, i3⟩ := all xs h
      refine ⟨by simp [PyData.canLay0, i1], ?_, by simp [PyData.eqv, i3]⟩
      simp only [PyData.depth]
      omega
    | tuple xs =>
      obtain ⟨i1, i2, i3⟩ := all xs h
      refine ⟨by simp [PyData.canLay0, i1], ?_, by simp [PyData.eqv, i3]⟩
      simp only [PyData.depth]
      omega
theorem okD_shaped {n : Nat} {d : PyData} (h : okD n d = true) (hn : n ≤ 64) : SeqAt.shaped d = true := by
  obtain ⟨h1, h2, _⟩ := okD_out n d h
  unfold SeqAt.shaped
  rw [h1, decide_eq_true (by omega)]
  rfl
theorem all_map {α : Type} {n : Nat} {f : α → PyData} {l : List α} (h : ∀ x, okD n (f x) = true) : (l.map f).all (okD n) = true := by
  rw [List.all_eq_true]
  intro d hd
  obtain ⟨x, _, rfl⟩ := List.mem_map.mp hd
  exact h x
theorem okD_opt (n : Nat) : ∀ o : Option Int, okD n (optD o) = true
  | none => by cases n <;> rfl
  | some _ => by cases n <;> rfl
section
variable {K : PySem.W.Frag} {σ : L2.St} {H B : Hp} {d e : PyData} {ta tb te : TE} {ds es : List PyData}
theorem rd_neS (n : Nat) (h : okD n d = true) (hn : n ≤ 64) : RD K (rNeD K) d d H (.bool false) := by
  have z := rd_neD (K := K) (H := H) (okD_shaped h hn) (okD_shaped h hn)
  rw [(okD_out n d h).2.2] at z
  exact z
theorem rd_eqS (n : Nat) (h : okD n d = true) (hn : n ≤ 64) : RD K (rEqD K) d d H (.bool true) := by
  have z := rd_eqD (K := K) (H := H) (okD_shaped h hn) (okD_shaped h hn)
  rw [(okD_out n d h).2.2] at z
  exact z
theorem eqv_ints : ∀ ns ms : List Int, PyData.eqvAll (ns.map .int) (ms.map .int) = decide (ns = ms)
  | [], [] => by simp [PyData.eqvAll]
  | [], _ :: _ => by simp [PyData.eqvAll]
  | _ :: _, [] => by simp [PyData.eqvAll]
  | n :: ns, m :: ms => by
    rw [List.map_cons, List.map_cons, PyData.eqvAll, eqv_ints ns ms]
    by_cases a : n = m
    · by_cases b : ns = ms
      · simp [a, b, PyData.eqv]
      · simp [a, b, PyData.eqv]
    · simp [a, PyData.eqv]
theorem eqv_optT (a b : Option (List Int)) : PyData.eqv (optT a) (optT b) = decide (a = b) := by
  cases a with
  | none =>
    cases b with
    | none => simp [optT, PyData.eqv]
    | some m => simp [optT, PyData.eqv]
  | some n =>
    cases b with
    | none => simp [optT, PyData.eqv]
    | some m =>
      show PyData.eqv (.tuple (n.map .int)) (.tuple (m.map .int)) = _
      rw [PyData.eqv, eqv_ints]
      simp
theorem ok_ints (n : Nat) (ns : List Int) : okD (n + 1) (.list (ns.map .int)) = true := all_map fun _ => by cases n <;> rfl
theorem ok_optT (n : Nat) : ∀ o : Option (List Int), okD (n + 1) (optT o) = true
  | none => rfl
  | some ns => all_map fun _ => by cases n <;> rfl
theorem cut_init (xs : List V) : cutV xs none (some (-1)) = xs.dropLast := by
  unfold cutV HT.sIx
  show (xs.drop 0).take ((if (-1 : Int) < 0 then ((-1 : Int) + (xs.length : Int)).toNat else _) - 0) = _
  rw [if_pos (by decide), List.drop_zero, Nat.sub_zero, List.dropLast_eq_take]
  congr 1
  omega
theorem dpa_init {xs : List V} (h : DpAll K H xs ds) : DpAll K H xs.dropLast ds.dropLast := by
  rw [List.dropLast_eq_take, List.dropLast_eq_take, h.length]
  exact h.take _
theorem d_is' {es' : List PyData} (h : EvDL K te σ B es) (e : es = es') : EvDL K te σ B es' := e ▸ h
/-- xs[:-1] -/
theorem dl_init (h : EvD K te σ B (.list ds)) : EvDL K (tSl (rSlL K) te tNoPart (tPart (tUn (rU fun i => .int (-i)) (tC (.int 1))))) σ B ds.dropLast := fun H1 x Q q => h H1 x _ fun v G2 H2 g2 hv => by
  obtain ⟨a, xs, rfl, hs, hd⟩ := Dp.lst_of hv
  refine ⟨1, rfl, -1, rfl, a, xs, rfl, ex_l g2.g2 hs, fun p hp => ?_⟩
  rw [cut_init]
  exact q p _ G2 _ (fresh_back g2.g2 hp) (fresh_back g2.h12 hp) (g2.trans (Gr.mut g2.g2 hp)) upd_same (dpa_init hd)
end
/-- the heights but those at the end that come without a coin -/
def bareF (r : Ru) : Nat → List Int → List Int
  | 0, ns => ns
  | n + 1, ns => if ns ≠ [] ∧ dueF r 0 ns = dueF r 0 ns.dropLast then bareF r n ns.dropLast else ns
def R_law_bare (ds : List PyData) (z : PyData) : Prop := ∃ (b : Bool) (ns : List Int) (b2 : Bool) (r : Ru), ds = [rows b (ns.map .int), ruD b2 r] ∧ (∀ c ∈ ns, 1 ≤ c ∧ c ≤ 100) ∧ ns.length ≤ 900 ∧ z = .list ((bareF r ns.length ns).map .int)
section
variable {P : Program} {w : World} {K : PySem.W.Frag} {mg : Str → Option Value} {base : Heap} {CX : CXT} {f : Addr} {fd : FuncData}
theorem H_law_bare (bl : Bl mg) (nx : NoY CX) (G_law_due : Has P w K mg base CX "_law_due" 2 ["_law_row_so", "_law_rule_here"] [] (spP K 2 R_law_due))
    (F : FunD K "_law_bare" "_law_bare" (defArgs s_law_bare) (defBody s_law_bare) (defScope s_law_bare) [] [] f fd) (hm : mg "_law_bare" = some (.ref f)) :
    Has P w K mg base CX "_law_bare" 3 ["_law_row_so", "_law_rule_here"] [] (spP K 2 R_law_bare) := by
  refine has_mk F hm sc_law_bare (spP_len rfl) (fun _ _ _ _ _ _ us hl => match us, hl with | [_, _], _ => rfl) fun cdv A outer s H vs Q E hr h => ?_
  obtain ⟨B, ds, z, x, hl, hd, ⟨b, ns, b2, r, rfl, hns, hlen, rfl⟩, q⟩ := h
  match vs, hd with
  | [v1, v2], .cons h1 (.cons h2 .nil) =>
    refine ⟨_, (pss_cons (ps_set (i := 2) sc_law_bare.nd rfl (by first | exact .inl rfl | exact .inr rfl) (pe_callTy call_list_of (by rfl) bl.list bb_list (pa_cons (pv 0) pa_nil))) (pss_cons (ps_while PassesOwn.never (PW.pt (pw_and (pt_cmpR (op_neD hr.units) (pv 2) (pe_lst pa_nil) (nomark _)) (pw_and1 (pt_cmpR (op_eqD hr.units) (pe_has G_law_due (hr.mono (by decide)) (by rfl) (pa_cons (pv 2) (pa_cons (pv 1) pa_nil)) (nx _)) (pe_has G_law_due (hr.mono (by decide)) (by rfl) (pa_cons (pe_slice sl_list (pv 2) po_none (po_some (pe_un un_neg pe_int))) (pa_cons (pv 1) pa_nil)) (nx _)) (nomark _))))) (pss_one (ps_set (i := 2) sc_law_bare.nd rfl (by first | exact .inl rfl | exact .inr rfl) (pe_slice sl_list (pv 2) po_none (po_some (pe_un un_neg pe_int)))))) (pss_one (ps_ret (pv 2))))), ?_⟩
    refine qd_asg (K := K) (d := .list (ns.map .int)) x (dl_d (dl_cb (da_cons (d_var rfl h1) da_nil) fun _ _ => rcdl_list (b := b))) fun v G1 H1 g1 hv => ?_
    refine qd_while (fun m σ' H' => ∃ (v3 : V) (G : Hp) (ms : List Int), σ' = [some v1, some v2, some v3] ∧ Gr B H G H' ∧ Dp K G v3 (.list (ms.map .int)) ∧ m = ms.length ∧ ms.length ≤ ns.length ∧ (∀ c ∈ ms, 1 ≤ c ∧ c ≤ 100) ∧ bareF r ms.length ms = bareF r ns.length ns) ns.length ⟨v, G1, ns, rfl, g1, hv, rfl, Nat.le_refl _, hns, rfl⟩ ?_
    rintro m σ' H' ⟨v3, G, ms, rfl, g, h3, rfl, hml, hms, hb⟩
    have h2G := dp_mono g.hg h2
    have hdl : ∀ c ∈ ms.dropLast, 1 ≤ c ∧ c ≤ 100 := fun c hc => hms c (List.dropLast_subset _ hc)
    have hdn : ms.dropLast.length ≤ 900 := by rw [List.length_dropLast]; omega
    have key : EvT (tAnd (tTest (tOp (rNeD K) (tVar 2) (tLst tNil))) (tTest (tOp (rEqD K) (tCall (spP K 2 R_law_due) [] E0 (tCons (tVar 2) (tCons (tVar 1) tNil))) (tCall (spP K 2 R_law_due) [] E0 (tCons (tSl (rSlL K) (tVar 2) tNoPart (tPart (tUn (rU fun i => .int (-i)) (tC (.int 1))))) (tCons (tVar 1) tNil))))))
        [some v1, some v2, some v3] G (!decide (ms = []) && decide (dueF r 0 ms = dueF r 0 ms.dropLast)) := by
      refine et_and (t_test (K := K) (d_op (d_var rfl h3) (dl_d (dl_lst da_nil (Nat.zero_le _))) fun _ _ => ?_)) fun _ => t_test (K := K) (d_op (u_law_due (b := true) (ns := ms) (d_var rfl h3) (d_var rfl h2G) hms (by omega)) (u_law_due (b := true) (ns := ms.dropLast) (dl_d (d_is' (dl_init (d_var rfl h3)) (List.map_dropLast ..).symm)) (d_var rfl h2G) hdl hdn) fun _ _ => ?_)
      · have e : PyData.eqv (.list (ms.map .int)) (.list []) = decide (ms = []) := by
          have z := eqv_ints ms []
          rw [PyData.eqv]
          exact z
        rw [← e]
        exact rd_neD (okD_shaped (ok_ints 0 ms) (by decide)) rfl
      · rw [← eqv_optT]
        exact rd_eqD (okD_shaped (ok_optT 0 _) (by decide)) (okD_shaped (ok_optT 0 _) (by decide))
    refine ⟨_, G, g.g2, key, fun hc H5 e5 => ?_, fun hc H5 e5 => ?_⟩
    · rw [Bool.and_eq_true, Bool.not_eq_true', decide_eq_false_iff_not, decide_eq_true_iff] at hc
      have hpos : 0 < ms.length := List.length_pos_iff.mpr hc.1
      refine ⟨fun σ' H' => ∃ (v3 : V) (G : Hp), σ' = [some v1, some v2, some v3] ∧ Gr B H G H' ∧ Dp K G v3 (.list (ms.dropLast.map .int)), fun σ2 H2 ⟨v4, G', e, g', h'⟩ => ⟨ms.dropLast.length, by rw [List.length_dropLast]; omega, v4, G', ms.dropLast, e, g', h', rfl, by rw [List.length_dropLast]; omega, hdl, ?_⟩, ?_⟩
      · rw [← hb, List.length_dropLast]
        obtain ⟨k, hk⟩ : ∃ k, ms.length = k + 1 := ⟨ms.length - 1, by omega⟩
        rw [hk, bareF, if_pos hc]
        rfl
      · have g5 := g.trans (Gr.ex g.g2 e5)
        exact sd_asg (K := K) (d := .list (ms.dropLast.map .int)) g5.g2 (dl_d (d_is' (dl_init (d_var rfl h3)) (List.map_dropLast ..).symm)) fun v6 G6 H6 g6 h6 => ⟨v6, G6, rfl, g5.trans g6, h6⟩
    · have g5 := g.trans (Gr.ex g.g2 e5)
      have e : bareF r ms.length ms = ms := by
        cases hk : ms.length with
        | zero => rfl
        | succ k =>
          rw [bareF, if_neg fun z => ?_]
          rw [decide_eq_true z.2, decide_eq_false z.1] at hc
          cases hc
      rw [← hb, e] at q
      exact sd_ret (K := K) g5.g2 (d_var rfl h3) fun v6 G6 H6 g6 h6 => q v6 G6 H6 (g5.trans g6) h6
end
end Tk
end

section
set_option Elab.async false
set_option linter.all false
set_option maxRecDepth 100000
set_option maxHeartbeats 400000
/-! k04, the law's reader of coins. -/
namespace Tk
open PySem PySem.Spec PyProof.Rows L2 Evl Tb
abbrev s_law_read : Stmt := topS 39
abbrev n_law_read : List Str := ["_law_coins_here", "_law_rule_here", "_law_found", "_law_at", "_law_high", "_law_end_here", "_law_height", "_law_is_open"]
theorem sc_law_read : FnScope n_law_read ["_law_coins_here", "_law_rule_here"] (defScope s_law_read) := ⟨rfl, rfl, rfl, by decide +kernel, rfl, by decide +kernel, by decide +kernel⟩

def badR (r : Ru) (cs : List Int) : Prop := cs ≠ [] ∧ limR r 1 = some 1
open Classical in
noncomputable def outD (r : Ru) (cs : List Int) : PyData := if badR r cs then .tuple [.str "spare", .int 0] else match rdF r (2 * cs.length + 1) 0 cs with
  | none => .tuple [.str "short", .int (cs.length : Nat)]
  | some l => .list (l.map .int)
theorem outD_bad {r : Ru} {cs : List Int} (h : badR r cs) : outD r cs = .tuple [.str "spare", .int 0] := by
  unfold outD
  rw [if_pos h]
theorem outD_none {r : Ru} {cs : List Int} (h : ¬ badR r cs) (e : rdF r (2 * cs.length + 1) 0 cs = none) : outD r cs = .tuple [.str "short", .int (cs.length : Nat)] := by
  unfold outD
  rw [if_neg h, e]
theorem outD_some {r : Ru} {cs l : List Int} (h : ¬ badR r cs) (e : rdF r (2 * cs.length + 1) 0 cs = some l) : outD r cs = .list (l.map .int) := by
  unfold outD
  rw [if_neg h, e]
def capB : Ru → Bool
  | .cap _ => true
  | _ => false
def R_law_read (ds : List PyData) (z : PyData) : Prop := ∃ (b : Bool) (cs : List Int) (b2 : Bool) (r : Ru), ds = [rows b (cs.map .int), ruD b2 r] ∧ (∀ c ∈ cs, c = 0 ∨ c = 1) ∧ okR r ∧ cs.length ≤ 20000 ∧ z = outD r cs
theorem opn_ne {lim : Option Int} (h : ∀ l, lim = some l → 1 ≤ l) : (!decide (lim = some 1)) = opnF lim 1 := by
  cases lim with
  | none => rfl
  | some l =>
    have h1 := h l rfl
    show (!decide (some l = some 1)) = decide (1 < l)
    by_cases c : l = 1
    · subst c
      rfl
    · rw [decide_eq_false (fun z => c (Option.some.inj z)), decide_eq_true (by omega)]
      rfl
theorem groF_shut {lim : Option Int} {h : Int} (o : opnF lim h = false) : ∀ cs, groF lim h cs = some (h, 0)
  | [] => by rw [groF, if_neg (by rw [o]; exact Bool.false_ne_true)]
  | _ :: _ => by rw [groF, if_neg (by rw [o]; exact Bool.false_ne_true)]
theorem groF_end {lim : Option Int} {h : Int} (o : opnF lim h = true) : groF lim h [] = none := by rw [groF, if_pos o]
theorem bad_lim {r : Ru} {cs : List Int} {t : Int} (hb : badR r cs) (ht : 0 ≤ t) : limR r t = some 1 := by
  have h := hb.2
  cases r with
  | free => cases h
  | step => cases h
  | cap n => exact h
  | stepc n =>
    have h2 : min (1 + 1) n = 1 := Option.some.inj h
    show some (min (t + 1) n) = some 1
    congr 1
    omega
section
variable {K : PySem.W.Frag} {σ : L2.St} {B H : Hp} {ta tb tc : TE} {d e z : PyData} {tz : TS} {D : Ends}
theorem qd_par3 {i j l : Nat} (x : Ex B H) (h0 : EvDA K (tCons ta (tCons tb (tCons tc tNil))) σ B [d, e, z]) (k : ∀ u v w G H1, Gr B H G H1 → Dp K G u d → Dp K G v e → Dp K G w z → tz D (((σ.set i (some u)).set j (some v)).set l (some w)) H1) : tSeq (tPar3 i j l (tCons ta (tCons tb (tCons tc tNil)))) tz D σ H := by
  show (tCons ta (tCons tb (tCons tc tNil))) σ H fun vs H1 => ∃ u v w, vs = [u, v, w] ∧ tz D (((σ.set i (some u)).set j (some v)).set l (some w)) H1
  refine h0 H x _ fun vs G H1 g hd => ?_
  match vs, hd with
  | [u, v, w], .cons hu (.cons hv (.cons hw .nil)) => exact ⟨u, v, w, rfl, k u v w G H1 g hu hv hw⟩
end
section
variable {P : Program} {w : World} {K : PySem.W.Frag} {mg : Str → Option Value} {base : Heap} {CX : CXT} {f : Addr} {fd : FuncData}
theorem H_law_read (bl : Bl mg) (nx : NoY CX) (G_law_end : Has P w K mg base CX "_law_end" 1 ["_law_rule_here", "_law_high"] [] (spP K 2 R_law_end))
    (F : FunD K "_law_read" "_law_read" (defArgs s_law_read) (defBody s_law_read) (defScope s_law_read) [] [] f fd) (hm : mg "_law_read" = some (.ref f)) :
    Has P w K mg base CX "_law_read" 2 ["_law_coins_here", "_law_rule_here"] [] (spP K 2 R_law_read) := by
  refine has_mk F hm sc_law_read (spP_len rfl) (fun _ _ _ _ _ _ us hl => match us, hl with | [_, _], _ => rfl) fun cdv A outer s H vs Q E hr h => ?_
  obtain ⟨B, ds, z, x, hl, hd, ⟨b, cs, b2, r, rfl, hc01, ok, hlen, rfl⟩, q⟩ := h
  match vs, hd with
  | [v1, v2], .cons h1 (.cons h2 .nil) =>
    refine ⟨_, (pss_cons (ps_par3 (i := 2) (j := 3) (l := 4) (by rfl) sc_law_read.nd rfl rfl rfl (by decide) (by decide) (by decide) rfl rfl rfl (pa_cons (pe_lst pa_nil) (pa_cons pe_int (pa_cons pe_int pa_nil))) (by rfl)) (pss_cons (ps_while PassesOwn.never (pt_cmpR op_lt (pv 3) (pe_callB call_len_seq (by rfl) bl.len bb_len (pa_cons (pv 0) pa_nil)) (nomark _)) (pss_cons (ps_set (i := 5) sc_law_read.nd rfl (by first | exact .inl rfl | exact .inr rfl) (pe_has G_law_end (hr.mono (by decide)) (by rfl) (pa_cons (pv 1) (pa_cons (pv 4) pa_nil)) (nx _))) (pss_cons (ps_if (PW.pt (pw_and (pt_cmpR op_eq (pv 5) pe_int (nomark _)) (pw_and1 (PW.pt (pw_or (pt_cmpR op_eq (pe_ix ix_row (pv 1) pe_int (fun _ _ => rfl)) pe_str (nomark _)) (pw_or1 (pt_cmpR op_gt (pv 4) pe_int (nomark _)))))))) (pss_one (ps_ret (pe_tup (pa_cons pe_str (pa_cons (pv 3) pa_nil))))) pss_nil) (pss_cons (ps_par (i := 6) (j := 7) (by rfl) sc_law_read.nd rfl rfl (by decide) rfl rfl (pa_cons pe_int (pa_cons (pe_cmpR op_ne (pv 5) pe_int (nomark _)) pa_nil)) (by rfl)) (pss_cons (ps_while PassesOwn.never (PW.pt (pw_and (pt_val (pv 7)) (pw_and1 (pt_cmpR op_lt (pv 3) (pe_callB call_len_seq (by rfl) bl.len bb_len (pa_cons (pv 0) pa_nil)) (nomark _))))) (pss_cons (ps_set (i := 3) sc_law_read.nd rfl (by first | exact .inl rfl | exact .inr rfl) (pe_op op_add (pv 3) pe_int)) (pss_cons (ps_set (i := 6) sc_law_read.nd rfl (by first | exact .inl rfl | exact .inr rfl) (pe_op op_add (pv 6) (pe_callTy call_int1 (by rfl) bl.int bb_int (pa_cons (pe_ix ix_row (pv 0) (pe_op op_sub (pv 3) pe_int) (fun _ _ => rfl)) pa_nil)))) (pss_one (ps_set (i := 7) sc_law_read.nd rfl (by first | exact .inl rfl | exact .inr rfl) (pe_and (pe_cmpR op_eq (pe_ix ix_row (pv 0) (pe_op op_sub (pv 3) pe_int) (fun _ _ => rfl)) pe_int (nomark _)) (pe_one (pe_cmpR op_ne (pv 6) (pv 5) (nomark _))))))))) (pss_cons (ps_if (pt_val (pv 7)) (pss_one (ps_ret (pe_tup (pa_cons pe_str (pa_cons (pe_callB call_len_seq (by rfl) bl.len bb_len (pa_cons (pv 0) pa_nil)) pa_nil))))) pss_nil) (pss_cons (ps_expr (pe_bm PySem.F.plainAttrs_list PySem.F.slot_list_append PySem.F.type_list_append mt_append (pv 2) (pa_cons (pv 6) pa_nil))) (pss_one (ps_set (i := 4) sc_law_read.nd rfl (by first | exact .inl rfl | exact .inr rfl) (pe_callB (call_max2 rfl) (by rfl) bl.max bb_max (pa_cons (pv 4) (pa_cons (pv 6) pa_nil)))))))))))) (pss_one (ps_ret (pv 2))))), ?_⟩
    generalize hL : rdF r (2 * cs.length + 1) 0 cs = L
    -- found, at, high
    refine ⟨by show 0 ≤ sizeLine; decide, fun lt l1 => ⟨_, _, _, rfl, ?_⟩⟩
    have lB : B lt = none := fresh_back x l1
    have g0 : Gr B H B (upd H lt (.lst [])) := Gr.mut x l1
    refine qd_while (fun m σ' H' => ∃ (t : Int) (pl : Nat) (ys : List Int) (a5 a6 a7 : Option V) (n : Nat), σ' = [some v1, some v2, some (.ref lt), some (.int (pl : Nat)), some (.int t), a5, a6, a7] ∧ Gr B H B H' ∧ H' lt = some (.lst (ys.map V.int)) ∧ pl ≤ cs.length ∧ 0 ≤ t ∧ ys.length + m ≤ 40001 ∧
      m = 2 * (cs.length - pl) + (if t = 0 then 1 else 0) ∧ m ≤ n ∧ (badR r cs → pl = 0) ∧ (¬ badR r cs → L = (rdF r n t (cs.drop pl)).map (ys ++ ·)))
      (2 * cs.length + 1) ⟨0, 0, [], _, _, _, 2 * cs.length + 1, rfl, g0, upd_same, Nat.zero_le _, Int.le_refl _, by show 0 + (2 * cs.length + 1) ≤ 40001; omega, rfl, Nat.le_refl _, fun _ => rfl, fun _ => ?_⟩ ?_
    · rw [List.drop_zero, hL]
      cases L <;> rfl
    rintro m σ' H' ⟨t, pl, ys, a5, a6, a7, n, rfl, g, hl', hpl, ht, hym, hmm, hmn, hbad, hrd⟩
    have lenD : ∀ σ : L2.St, σ[0]? = some (some v1) → EvD K (tCB (fun xs H Q => ∃ p ys, xs = [V.ref p] ∧ (SqL K H p ys ∨ SqT K H p ys) ∧ Q (.int ys.length) H) (tCons (tVar 0) tNil)) σ B (.int (cs.length : Nat)) := fun σ hv => d_is (d_cb (da_cons (d_var hv h1) da_nil) fun _ _ => rcd_len) (by rw [List.length_map])
    have key : EvT (tTest (tOp (rI0 fun i j => .bl (decide (i < j))) (tVar 3) (tCB (fun xs H Q => ∃ p ys, xs = [V.ref p] ∧ (SqL K H p ys ∨ SqT K H p ys) ∧ Q (.int ys.length) H) (tCons (tVar 0) tNil)))) [some v1, some v2, some (.ref lt), some (.int (pl : Nat)), some (.int t), a5, a6, a7] B (decide (pl < cs.length)) :=
      et_is (t_test (K := K) (d_op (d_var rfl (.int _)) (lenD _ rfl) fun _ _ => rd_cmp)) (decide_eq_decide.mpr ⟨fun z => by omega, fun z => by omega⟩)
    refine ⟨_, B, g.g2, key, fun hc H7 e7 => ?_, fun hc H7 e7 => ?_⟩
    · have hlt' := of_decide_eq_true hc
      have hcs : cs ≠ [] := fun z => by rw [z] at hlt'; cases hlt'
      have hdne : cs.drop pl ≠ [] := fun z => by
        have := congrArg List.length z
        rw [List.length_drop] at this
        simp at this
        omega
      obtain ⟨n', rfl⟩ : ∃ n', n = n' + 1 := ⟨n - 1, by omega⟩
      have g7 := g.trans (Gr.ex g.g2 e7)
      have hl7 : H7 lt = some (.lst (ys.map V.int)) := e7 _ _ hl'
      refine ⟨fun σ' H' => ∃ m', m' < m ∧ ∃ (t : Int) (pl : Nat) (ys : List Int) (a5 a6 a7 : Option V) (n : Nat), σ' = [some v1, some v2, some (.ref lt), some (.int (pl : Nat)), some (.int t), a5, a6, a7] ∧ Gr B H B H' ∧ H' lt = some (.lst (ys.map V.int)) ∧ pl ≤ cs.length ∧ 0 ≤ t ∧ ys.length + m' ≤ 40001 ∧
        m' = 2 * (cs.length - pl) + (if t = 0 then 1 else 0) ∧ m' ≤ n ∧ (badR r cs → pl = 0) ∧ (¬ badR r cs → L = (rdF r n t (cs.drop pl)).map (ys ++ ·)), fun σ2 H2 z => z, ?_⟩
      refine qd_asg (K := K) (d := optD (limR r t)) g7.g2 (u_law_end (d_var rfl h2) (d_var rfl (.int t))) fun ve G8 H8 g8 hve => ?_
      have hveB : ∀ G, Dp K G ve (optD (limR r t)) := fun G => by
        cases hlim : limR r t with
        | none =>
          rw [hlim] at hve
          rw [hve.non_of]
          exact .non
        | some l =>
          rw [hlim] at hve
          rw [Dp.int_of (i := l) hve]
          exact .int l
      have g8' : Gr B H B H8 := g7.trans (Gr.ex g7.g2 g8.h12)
      have hl8 := g8.h12 _ _ hl7
      have hlimp : ∀ l, limR r t = some l → 1 ≤ l := fun l hl => limR_pos ok ht hl
      -- is it a coin to spare
      have capD : ∀ σ : L2.St, σ[1]? = some (some v2) → EvT (tTest (tOp rEq (tOp (rIxR K) (tVar 1) (tC (.int 0))) (tC (.str "cap")))) σ B (capB r) := fun σ hv => by
        have word : ∀ (wd : Str) (zs : List PyData), Dp K B v2 (rows b2 (.str wd :: zs)) → EvT (tTest (tOp rEq (tOp (rIxR K) (tVar 1) (tC (.int 0))) (tC (.str "cap")))) σ B (decide (wd = "cap")) := fun wd zs h2 => t_test (K := K) (d_op (d_op (d_var hv h2) d_int fun _ _ => rd_ix (e := .str wd) at_zero) d_str fun _ _ => rd_eq rfl)
        cases r with
        | free => exact et_is (word "free" [] h2) (by decide)
        | step => exact et_is (word "step" [] h2) (by decide)
        | cap n => exact et_is (word "cap" [.int n] h2) (show decide (("cap" : Str) = "cap") = true by decide)
        | stepc n => exact et_is (word "step" [.int n] h2) (show decide (("step" : Str) = "cap") = false by decide)
      have spare : EvT (tAnd (tTest (tOp rEq (tVar 5) (tC (.int 1)))) (tOr (tTest (tOp rEq (tOp (rIxR K) (tVar 1) (tC (.int 0))) (tC (.str "cap")))) (tTest (tOp (rI0 fun i j => .bl (decide (i > j))) (tVar 4) (tC (.int 0))))))
          [some v1, some v2, some (.ref lt), some (.int (pl : Nat)), some (.int t), some ve, a6, a7] B (decide (limR r t = some 1) && (capB r || decide (t > 0))) :=
        et_and (et_is (t_test (K := K) (d_op (d_var rfl (hveB B)) d_int fun _ _ => rd_eq (scal_opt _ _))) (eqS_opt _ _)) fun _ => et_or (capD _ rfl) fun _ => t_test (K := K) (d_op (d_var rfl (.int t)) d_int fun _ _ => rd_cmp)
      by_cases hs : (decide (limR r t = some 1) && (capB r || decide (t > 0))) = true
      · refine qd_when (b := true) g8'.g2 (et_is spare hs) (fun _ H9 e9 => ?_) fun z => Bool.noConfusion z
        rw [Bool.and_eq_true, Bool.or_eq_true, decide_eq_true_iff, decide_eq_true_iff] at hs
        have hb : badR r cs := ⟨hcs, by
          rcases hs.2 with hs2 | hs2
          · cases r with
            | cap n => exact hs.1
            | free => cases hs2
            | step => cases hs2
            | stepc n => cases hs2
          · by_cases z : limR r 1 = some 1
            · exact z
            · have := lim_two ok (show 1 ≤ t by omega) z
              rw [hs.1] at this
              exact absurd this (by decide)⟩
        have hpl0 := hbad hb
        subst hpl0
        rw [outD_bad hb] at q
        exact sd_ret (K := K) (g8'.g2.trans e9) (d_tup (da_cons d_str (da_cons (d_var rfl (.int _)) da_nil)) (by show 2 ≤ 100000; decide)) fun v G H10 g10 hv => q v G H10 (g8'.trans ((Gr.ex g8'.g2 e9).trans g10)) hv
      have hs' : (decide (limR r t = some 1) && (capB r || decide (t > 0))) = false := by
        cases hh : (decide (limR r t = some 1) && (capB r || decide (t > 0))) with
        | true => exact absurd hh hs
        | false => rfl
      refine qd_no g8'.g2 (et_is spare hs') fun H9 e9 => ?_
      have g9' := g8'.trans (Gr.ex g8'.g2 e9)
      have hl9 : H9 lt = some (.lst (ys.map V.int)) := e9 _ _ hl8
      -- height, is_open
      refine qd_par2 (K := K) (d := .int 1) (e := .bool (opnF (limR r t) 1)) g9'.g2 d_int (d_is (d_op (d_var rfl (hveB B)) d_int fun _ _ => rd_ne (scal_opt _ _)) (by rw [eqS_opt, opn_ne hlimp])) fun va vo G10 H10 g10 hva hvo => ?_
      rw [hva.int_of, hvo.bl_of]
      have g10' : Gr B H B H10 := g9'.trans (Gr.ex g9'.g2 g10.h12)
      have hl10 := g10.h12 _ _ hl9
      -- the tower's coins
      refine qd_while (fun m σ' H' => ∃ (h : Int) (j : Nat) (o : Bool), σ' = [some v1, some v2, some (.ref lt), some (.int ((pl + j : Nat) : Int)), some (.int t), some ve, some (.int h), some (.bl o)] ∧ Gr B H B H' ∧ H' lt = some (.lst (ys.map V.int)) ∧ pl + j ≤ cs.length ∧ 1 ≤ h ∧ m = cs.length - (pl + j) ∧
        (o = true → opnF (limR r t) h = true ∧ groF (limR r t) 1 (cs.drop pl) = (groF (limR r t) h (cs.drop (pl + j))).map fun p => (p.1, p.2 + j)) ∧ (o = false → groF (limR r t) 1 (cs.drop pl) = some (h, j)))
        (cs.length - pl) ⟨1, 0, opnF (limR r t) 1, rfl, g10', hl10, hpl, Int.le_refl 1, rfl, fun ho => ⟨ho, by rw [Nat.add_zero]; cases groF (limR r t) 1 (cs.drop pl) <;> rfl⟩, fun ho => groF_shut ho _⟩ ?_
      rintro m2 σ2 H11 ⟨h, j, o, rfl, g11, hl11, hj, h1h, rfl, hopn, hshut⟩
      have key2 : EvT (tAnd (tB (tVar 7)) (tTest (tOp (rI0 fun i j => .bl (decide (i < j))) (tVar 3) (tCB (fun xs H Q => ∃ p ys, xs = [V.ref p] ∧ (SqL K H p ys ∨ SqT K H p ys) ∧ Q (.int ys.length) H) (tCons (tVar 0) tNil))))) [some v1, some v2, some (.ref lt), some (.int ((pl + j : Nat) : Int)), some (.int t), some ve, some (.int h), some (.bl o)] B (o && decide (pl + j < cs.length)) :=
        et_and (t_val (K := K) (d_var rfl (.bl o))) fun _ => et_is (t_test (K := K) (d_op (d_var rfl (.int _)) (lenD _ rfl) fun _ _ => rd_cmp)) (decide_eq_decide.mpr ⟨fun z => by omega, fun z => by omega⟩)
      refine ⟨_, B, g11.g2, key2, fun hc2 H12 e12 => ?_, fun hc2 H12 e12 => ?_⟩
      · rw [Bool.and_eq_true, decide_eq_true_iff] at hc2
        obtain ⟨rfl, hlt2⟩ := hc2
        obtain ⟨ho, hg⟩ := hopn rfl
        have hdrop : cs.drop (pl + j) = cs[pl + j] :: cs.drop (pl + j + 1) := List.drop_eq_getElem_cons hlt2
        have hcc := hc01 cs[pl + j] (List.getElem_mem hlt2)
        have hget : (cs.map PyData.int)[pl + j]? = some (.int cs[pl + j]) := by rw [List.getElem?_map, List.getElem?_eq_getElem hlt2]; rfl
        rw [hdrop, groF, if_pos ho] at hg
        generalize cs[pl + j] = cc at *
        have g12 := g11.trans (Gr.ex g11.g2 e12)
        have ixD : ∀ σ : L2.St, σ[0]? = some (some v1) → σ[3]? = some (some (.int ((pl + (j + 1) : Nat) : Int))) → EvD K (tOp (rIxR K) (tVar 0) (tOp (rI0 fun i j => .int (i - j)) (tVar 3) (tC (.int 1)))) σ B (.int cc) := fun σ hv hv3 =>
          d_op (d_var hv h1) (d_is (d_op (d_var hv3 (.int _)) d_int fun _ _ => rd_int) (e := .int ((pl + j : Nat) : Int)) (congrArg PyData.int (by omega))) fun _ _ => rd_ix (atI_nat hget)
        refine ⟨fun σ' H' => ∃ (h : Int) (o : Bool), σ' = [some v1, some v2, some (.ref lt), some (.int ((pl + (j + 1) : Nat) : Int)), some (.int t), some ve, some (.int h), some (.bl o)] ∧ Gr B H B H' ∧ H' lt = some (.lst (ys.map V.int)) ∧ 1 ≤ h ∧
          (o = true → opnF (limR r t) h = true ∧ groF (limR r t) 1 (cs.drop pl) = (groF (limR r t) h (cs.drop (pl + (j + 1)))).map fun p => (p.1, p.2 + (j + 1))) ∧ (o = false → groF (limR r t) 1 (cs.drop pl) = some (h, j + 1)),
          fun σ3 H3 ⟨h, o, k1, k2, k3, k0, k4, k5⟩ => ⟨cs.length - (pl + (j + 1)), by omega, h, j + 1, o, k1, k2, k3, by omega, k0, rfl, k4, k5⟩, ?_⟩
        refine qd_asg (K := K) (d := .int ((pl + (j + 1) : Nat) : Int)) g12.g2 (d_is (d_op (d_var rfl (.int _)) d_int fun _ _ => rd_int) (congrArg PyData.int (by omega))) fun vp G13 H13 g13 hvp => ?_
        rw [hvp.int_of]
        have g13' : Gr B H B H13 := g12.trans (Gr.ex g12.g2 g13.h12)
        refine qd_asg (K := K) (d := .int (h + cc)) g13'.g2 (d_op (d_var rfl (.int h)) (d_cb (da_cons (ixD _ rfl rfl) da_nil) fun _ _ => rcd_int1) fun _ _ => rd_int) fun vh G14 H14 g14 hvh => ?_
        rw [hvh.int_of]
        have g14' : Gr B H B H14 := g13'.trans (Gr.ex g13'.g2 g14.h12)
        refine sd_asg (K := K) (d := .bool (decide (cc = 1) && !decide (limR r t = some (h + cc)))) g14'.g2 (d_and (d_op (ixD _ rfl rfl) d_int fun _ _ => rd_eq rfl) fun _ => d_is (d_op (d := .int (h + cc)) (e := optD (limR r t)) (d_var rfl (.int _)) (d_var rfl (hveB B)) fun _ _ => rd_ne (by cases limR r t <;> rfl)) (by
          cases limR r t with
          | none => rfl
          | some l =>
            show PyData.bool (!decide (h + cc = l)) = .bool (!decide (some l = some (h + cc)))
            congr 2
            exact decide_eq_decide.mpr ⟨fun z => by rw [z], fun z => (Option.some.inj z).symm⟩)) fun vo G15 H15 g15 hvo => ?_
        rw [hvo.bl_of]
        have g15' : Gr B H B H15 := g14'.trans (Gr.ex g14'.g2 g15.h12)
        have hl15 : H15 lt = some (.lst (ys.map V.int)) := g15.h12 _ _ (g14.h12 _ _ (g13.h12 _ _ (e12 _ _ hl11)))
        refine ⟨h + cc, _, rfl, g15', hl15, by omega, ?_, ?_⟩
        · intro ho2
          rw [Bool.and_eq_true, Bool.not_eq_true', decide_eq_true_iff, decide_eq_false_iff_not] at ho2
          obtain ⟨rfl, hne⟩ := ho2
          refine ⟨?_, ?_⟩
          · cases hlim : limR r t with
            | none => rfl
            | some l =>
              rw [hlim] at ho hne
              have o1 : h < l := of_decide_eq_true ho
              have o2 : ¬ (l = h + 1) := fun z => hne (by rw [z])
              exact decide_eq_true (by omega)
          · rw [hg, if_neg (by decide), Option.map_map]
            show Option.map _ (groF (limR r t) (h + 1) (cs.drop (pl + j + 1))) = _
            congr 1
            funext p
            show (p.1, p.2 + 1 + j) = (p.1, p.2 + (j + 1))
            congr 1
            omega
        · intro ho2
          rcases hcc with rfl | rfl
          · rw [hg, if_pos rfl]
            show some (h, 1 + j) = some (h + 0, j + 1)
            rw [Int.add_zero, Nat.add_comm]
          · have hlim : limR r t = some (h + 1) := by
              by_cases z : limR r t = some (h + 1)
              · exact z
              · rw [decide_eq_false z] at ho2
                cases ho2
            rw [hg, if_neg (by decide), groF_shut (by rw [hlim]; exact decide_eq_false (by omega))]
            show some (h + 1, 0 + 1 + j) = some (h + 1, j + 1)
            congr 2
            omega
      · -- the tower is at its end, or the coins are
        have g12 := g11.trans (Gr.ex g11.g2 e12)
        have hl12 : H12 lt = some (.lst (ys.map V.int)) := e12 _ _ hl11
        cases o with
        | true =>
          obtain ⟨ho, hg⟩ := hopn rfl
          have hnl : ¬ pl + j < cs.length := fun z => by
            rw [Bool.true_and, decide_eq_true z] at hc2
            cases hc2
          have hd0 : cs.drop (pl + j) = [] := List.drop_eq_nil_of_le (by omega)
          rw [hd0, groF_end ho] at hg
          have nb : ¬ badR r cs := fun hb => by
            rw [bad_lim hb ht] at ho
            have := of_decide_eq_true (show decide (h < 1) = true from ho)
            omega
          have hN : L = none := by
            rw [hrd nb, rdF, if_neg hdne, hg]
            rfl
          rw [outD_none nb (hL.trans hN)] at q
          refine qd_when (b := true) g12.g2 (t_val (K := K) (d_var rfl (.bl true))) (fun _ H13 e13 => ?_) fun z => Bool.noConfusion z
          exact sd_ret (K := K) (g12.g2.trans e13) (d_tup (da_cons d_str (da_cons (lenD _ rfl) da_nil)) (by show 2 ≤ 100000; decide)) fun v G H14 g14 hv => q v G H14 (g12.trans ((Gr.ex g12.g2 e13).trans g14)) hv
        | false =>
          have hk := hshut rfl
          obtain ⟨f1, f2, f3⟩ := groF_facts hk
          refine qd_no g12.g2 (t_val (K := K) (d_var rfl (.bl false))) fun H13 e13 => ?_
          have g13 := g12.trans (Gr.ex g12.g2 e13)
          refine qd_append (K := K) (j := 2) (d := .int h) g13.g2 (e13 _ _ hl12) lB rfl (d_var rfl (.int h)) (by rw [List.length_map]; omega) fun y G14 H14 g14 gl14 hl14 hy => ?_
          rw [hy.int_of]
          have g14' : Gr B H B (upd H14 lt (.lst (ys.map V.int ++ [.int h]))) := gr_mut (g13.trans (Gr.ex g13.g2 g14.h12)) lB l1
          refine sd_asg (K := K) g14'.g2 (d_cb (da_cons (d_var rfl (.int t)) (da_cons (d_var rfl (.int h)) da_nil)) fun _ _ => rcd_max2) fun v G15 H15 g15 hv => ?_
          rw [hv.int_of]
          have hmax : ¬ (max t h = 0) := by omega
          have opn1 : ¬ badR r cs → t ≠ 0 → 1 ≤ j := fun nb z => f3 (lim_two ok (by omega) fun y => nb ⟨hcs, y⟩)
          have badT : badR r cs → t = 0 ∧ j = 0 := fun hb => by
            have e := bad_lim hb ht
            rw [e, show decide (some (1 : Int) = some 1) = true from rfl, Bool.true_and, Bool.or_eq_false_iff, decide_eq_false_iff_not] at hs'
            rw [e, groF_shut rfl] at hk
            cases hk
            exact ⟨by omega, rfl⟩
          have hless : 2 * (cs.length - (pl + j)) < m := by
            rw [hmm]
            by_cases z : t = 0
            · rw [if_pos z]
              omega
            · have nb : ¬ badR r cs := fun hb => z (badT hb).1
              have := opn1 nb z
              rw [if_neg z]
              omega
          refine ⟨2 * (cs.length - (pl + j)), hless, max t h, pl + j, ys ++ [h], _, _, _, n', rfl, g14'.trans (Gr.ex g14'.g2 g15.h12), by rw [g15.h12 _ _ upd_same, List.map_append]; rfl, hj, by omega, by rw [List.length_append]; show ys.length + 1 + _ ≤ _; omega, by rw [if_neg hmax]; rfl, by omega, fun hb => by rw [hbad hb, (badT hb).2], fun nb => ?_⟩
          rw [hrd nb, rdF, if_neg hdne, hk]
          show ((rdF r n' (max t h) ((cs.drop pl).drop j)).map _).map _ = _
          rw [Option.map_map, List.drop_drop]
          congr 1
          funext l
          show ys ++ h :: l = ys ++ [h] ++ l
          rw [List.append_assoc]
          rfl
    · have hge : ¬ pl < cs.length := of_decide_eq_false hc
      have hdn : cs.drop pl = [] := List.drop_eq_nil_of_le (by omega)
      have g7 := g.trans (Gr.ex g.g2 e7)
      have nb : ¬ badR r cs := fun hb => by
        have := hbad hb
        have : 0 < cs.length := List.length_pos_iff.mpr hb.1
        omega
      have hr : L = some ys := by
        rw [hrd nb, hdn]
        cases n with
        | zero =>
          show some (ys ++ []) = _
          rw [List.append_nil]
        | succ n =>
          rw [rdF, if_pos rfl]
          show some (ys ++ []) = _
          rw [List.append_nil]
      rw [outD_some nb (hL.trans hr)] at q
      have gfz := gr_freeze lB l1 g7 (e7 _ _ hl')
      exact sd_ret (K := K) gfz.g2 (d_var rfl (dp_freeze lB (DpAll.of_ints ys))) fun v G8 H8 g8 hv => q v G8 H8 (gfz.trans g8) hv
end
end Tk
end

section
set_option Elab.async false
set_option linter.all false
set_option maxRecDepth 100000
set_option maxHeartbeats 400000
/-! k04, the law's look at single heights. -/
namespace Tk
open PySem PySem.Spec PyProof.Rows L2 Evl Tb
abbrev s_law_single_right : Stmt := topS 41
abbrev n_law_single_right : List Str := ["_law_source", "_law_rule_here", "_law_high", "_law_end_here", "_law_height", "_law_some", "_law_ahead", "_law_tail", "_law_k"]
theorem sc_law_single_right : FnScope n_law_single_right ["_law_source", "_law_rule_here"] (defScope s_law_single_right) := ⟨rfl, rfl, rfl, by decide +kernel, rfl, by decide +kernel, by decide +kernel⟩

theorem ex_add {G H : Hp} {l : Addr} {o : HO} (e : Ex G H) (h : H l = some o) : Ex (upd G l o) H := fun b u q => by
  by_cases c : b = l
  · subst c
    rw [upd_same] at q
    cases q
    exact h
  · rw [upd_ne c] at q
    exact e b u q
theorem groF_rep {lim : Option Int} {tail : List Int} : ∀ (n : Nat) (k : Int), (∀ l, lim = some l → k + n ≤ l) → groF lim k (List.replicate n 1 ++ (if lim = some (k + n) then [] else [0]) ++ tail) = some (k + n, n + (if lim = some (k + n) then 0 else 1))
  | 0, k, hl => by
    show groF lim k ([] ++ (if lim = some (k + 0) then [] else [0]) ++ tail) = some (k + 0, 0 + (if lim = some (k + 0) then 0 else 1))
    rw [Int.add_zero]
    by_cases c : lim = some k
    · rw [if_pos c, if_pos c, groF_shut (by rw [c]; exact decide_eq_false (by omega))]
    · rw [if_neg c, if_neg c]
      have o : opnF lim k = true := by
        cases lim with
        | none => rfl
        | some l =>
          have := hl l rfl
          exact decide_eq_true (by
            have : l ≠ k := fun z => c (by rw [z])
            omega)
      show groF lim k (0 :: tail) = _
      rw [groF, if_pos o, if_pos rfl]
  | n + 1, k, hl => by
    have e : k + ((n + 1 : Nat) : Int) = (k + 1) + (n : Int) := by omega
    have o : opnF lim k = true := by
      cases lim with
      | none => rfl
      | some l =>
        have := hl l rfl
        exact decide_eq_true (by omega)
    rw [e, List.replicate_succ]
    show groF lim k (1 :: (List.replicate n 1 ++ (if lim = some (k + 1 + (n : Int)) then [] else [0]) ++ tail)) = _
    rw [groF, if_pos o, if_neg (by decide), groF_rep n (k + 1) fun l h => by have := hl l h; omega]
    show some (_, _ + 1) = some (_, _)
    congr 2
    omega
theorem cw_gro {h : Int} {lim : Option Int} {c tail : List Int} (e : cwL h lim = some c) (h1 : 1 ≤ h) : groF lim 1 (c ++ tail) = some (h, c.length) := by
  have hh : (1 : Int) + ((h - 1).toNat : Int) = h := by omega
  have key := groF_rep (lim := lim) (tail := tail) (h - 1).toNat 1
  rw [hh] at key
  cases lim with
  | none =>
    cases e
    have k := key fun l z => nomatch z
    rw [if_neg (fun z => nomatch z), if_neg (fun z => nomatch z)] at k
    rw [k, List.length_append, List.length_replicate]
    rfl
  | some l =>
    replace e : (if l < h then none else some (List.replicate (h - 1).toNat (1 : Int) ++ (if h = l then [] else [0]))) = some c := e
    split at e
    · cases e
    · rename_i hl
      cases e
      have k := key fun l' z => by cases z; omega
      by_cases c2 : h = l
      · rw [if_pos c2]
        rw [if_pos (by rw [c2]), if_pos (by rw [c2])] at k
        rw [k, List.length_append, List.length_replicate]
        rfl
      · rw [if_neg c2]
        rw [if_neg (fun z => c2 (Option.some.inj z).symm), if_neg (fun z => c2 (Option.some.inj z).symm)] at k
        rw [k, List.length_append, List.length_replicate]
        rfl
theorem cwL_01 {h : Int} {lim : Option Int} {c : List Int} (e : cwL h lim = some c) : ∀ x ∈ c, x = 0 ∨ x = 1 := by
  have r1 : ∀ n : Nat, ∀ x ∈ List.replicate n (1 : Int), x = 0 ∨ x = 1 := fun n x hx => .inr (List.eq_of_mem_replicate hx)
  cases lim with
  | none =>
    cases e
    intro x hx
    rcases List.mem_append.mp hx with hx | hx
    · exact r1 _ x hx
    · exact .inl (List.mem_singleton.mp hx)
  | some l =>
    replace e : (if l < h then none else some (List.replicate (h - 1).toNat (1 : Int) ++ (if h = l then [] else [0]))) = some c := e
    split at e
    · cases e
    · cases e
      intro x hx
      rcases List.mem_append.mp hx with hx | hx
      · exact r1 _ x hx
      · split at hx
        · cases hx
        · exact .inl (List.mem_singleton.mp hx)
theorem qd_asgTup {σ : L2.St} {H : Hp} {r : List V → Hp → VK → Prop} {te : TE} {g : TG} {tz : TS} {D : Ends} (h : te σ H fun v H1 => r [v] H1 fun w H2 => g w σ H2 (tz D)) : tSeq (tAsg (tCB r (tCons te tNil)) g) tz D σ H := h
theorem qd_asgC {σ : L2.St} {H : Hp} {te : TE} {g : TG} {tz : TS} {D : Ends} (h : te σ H fun w H2 => g w σ H2 (tz D)) : tSeq (tAsg te g) tz D σ H := h
theorem yes_if {A B : Prop} (h : A) : if true = true then A else B := by
  rw [if_pos rfl]
  exact h
/-- [next(source, k) for _ in range(next(source, m))] -/
theorem lc_draw {σ : L2.St} {B H : Hp} {a : Addr} {i : Nat} {mm kk : Int} {Q : VK} (hv : σ[0]? = some (some (.ref a))) (hv2 : ∀ y, ((wipe σ [i]).set i (some y))[0]? = some (some (.ref a))) (hw : ∀ y, wipe ((wipe σ [i]).set i (some y)) [i] = wipe σ [i])
    (x : Ex B H) (ba : B a = none) (hs : SrcAt H a) (m0 : 0 < mm) (m1 : mm ≤ 1000) (k0 : 0 < kk) (k1 : kk ≤ 1000)
    (q : ∀ (ns : List Int) (p : Addr) (H' : Hp), (ns.length : Int) < mm → (∀ c ∈ ns, 0 ≤ c ∧ c < kk) → GrA a B H B H' → SrcAt H' a → H p = none → H' p = some (.lst (ns.map V.int)) → Q (.ref p) H') :
    (tLc (iRng1 (tCons (tCall spNext [] E0 (tCons (tVar 0) (tCons (tC (.int mm)) tNil))) tNil)) (gName i) tYes (tCall spNext [] E0 (tCons (tVar 0) (tCons (tC (.int kk)) tNil))) [i]) σ H Q := by
  have big : (1000 : Int) < 2 ^ 62 := by decide
  have b20 : (1000 : Int) ≤ 10 ^ 20 := by decide
  refine ⟨_, hv, a, mm, rfl, hs, m0, by omega, fun n H1 n0 n1 e1 s1 => ⟨n, rfl, by omega, by omega, fun D hD => ?_⟩⟩
  have Da : D ≠ a := fun z => by subst z; exact s1.ne hD
  have HD : H D = none := by
    cases h : H D with
    | none => rfl
    | some o =>
      have := e1 D o Da h
      rw [hD] at this
      cases this
  have g1 := GrA.turn x ba e1
  refine lc_range (fun j H' => ∃ ns : List Int, ns.length = j ∧ (∀ c ∈ ns, 0 ≤ c ∧ c < kk) ∧ GrA a B H B H' ∧ SrcAt H' a ∧ H' D = some (.lst (ns.map V.int))) ⟨[], rfl, (fun c hc => by cases hc), g1.mut (fresh_back x HD) HD, s1.mono (Ex.new hD), upd_same⟩ ?_ ?_
  · rintro j H' hj ⟨ns, hl, hns, g, s, hl'⟩
    refine ⟨hw _, ?_⟩
    show ∃ v, ((wipe σ [i]).set i (some (.int (0 + (j : Int)))))[0]? = some (some v) ∧ _
    refine ⟨_, hv2 _, a, kk, rfl, s, k0, by omega, fun r H4 r0 r1 e4 s4 => ⟨_, e4 D _ Da hl', sz_lt (by rw [List.length_map]; omega), ns ++ [r], by rw [List.length_append, hl]; rfl, fun c hc => ?_, (g.next ba s.ne e4).mut (fresh_back x HD) HD, ?_, by rw [upd_same, List.map_append]; rfl⟩⟩
    · rcases List.mem_append.mp hc with hc | hc
      · exact hns c hc
      · rw [List.mem_singleton.mp hc]
        exact ⟨r0, r1⟩
    · obtain ⟨z0, z1, z2, hz⟩ := s4
      exact ⟨z0, z1, z2, by rw [upd_ne Da.symm]; exact hz⟩
  · rintro H' ⟨ns, hl, hns, g, s, hl'⟩
    exact q ns D H' (by omega) hns g s HD hl'
def spSingle (K : PySem.W.Frag) : Sp := fun vs H Q _ => ∃ (a : Addr) (v2 : V) (B : Hp) (b : Bool) (r : Ru), vs = [.ref a, v2] ∧ Ex B H ∧ B a = none ∧ SrcAt H a ∧ Dp K B v2 (ruD b r) ∧ okR r ∧ ∀ H', GrA a B H B H' → SrcAt H' a → Q (.bl true) H'
section
variable {P : Program} {w : World} {K : PySem.W.Frag} {mg : Str → Option Value} {base : Heap} {CX : CXT} {f : Addr} {fd : FuncData}
theorem H_single_right (bl : Bl mg) (nx : NoY CX) (G_law_next : Has P w K mg base CX "_law_next" 1 ["_law_source", "_law_many"] [] spNext) (G_law_one : Has P w K mg base CX "_law_one" 2 ["_law_source", "_law_some"] [] (spOne K))
    (G_law_end : Has P w K mg base CX "_law_end" 1 ["_law_rule_here", "_law_high"] [] (spP K 2 R_law_end)) (G_law_coins : Has P w K mg base CX "_law_coins" 1 ["_law_height", "_law_end_here"] [] (spP K 2 R_law_coins))
    (G_most : Has P w K mg base CX "most" 4 ["rule", "top"] [] (spP K 2 R_most)) (G_coins_for : Has P w K mg base CX "coins_for" 5 ["height", "rule", "top"] [] (spP K 3 R_coins_for)) (G_toss : Has P w K mg base CX "toss" 5 ["coins", "at", "rule", "top"] [] (spP K 4 R_toss))
    (F : FunD K "_law_single_right" "_law_single_right" (defArgs s_law_single_right) (defBody s_law_single_right) (defScope s_law_single_right) [] [] f fd) (hm : mg "_law_single_right" = some (.ref f)) :
    Has P w K mg base CX "_law_single_right" 6 ["_law_source", "_law_rule_here"] [] (spSingle K) := by
  refine has_mk F hm sc_law_single_right (fun vs H Q E h => by obtain ⟨a, v2, B, b, r, rfl, _⟩ := h; rfl) (fun _ _ _ _ _ _ us hl => match us, hl with | [_, _], _ => rfl) fun cdv A outer s H vs Q E hr h => ?_
  obtain ⟨a, v2, B, b, r, rfl, x, ba, hs, h2, ok, q⟩ := h
  refine ⟨_, (pss_cons (ps_set (i := 2) sc_law_single_right.nd rfl (by first | exact .inl rfl | exact .inr rfl) (pe_has G_law_one (hr.mono (by decide)) (by rfl) (pa_cons (pv 0) (pa_cons (pe_lst (pa_cons pe_int (pa_cons pe_int (pa_cons pe_int (pa_cons pe_int (pa_cons pe_int pa_nil)))))) pa_nil)) (nx _))) (pss_cons (ps_set (i := 3) sc_law_single_right.nd rfl (by first | exact .inl rfl | exact .inr rfl) (pe_has G_law_end (hr.mono (by decide)) (by rfl) (pa_cons (pv 1) (pa_cons (pv 2) pa_nil)) (nx _))) (pss_cons (ps_if (pt_cmpR op_ne (pe_has G_most (hr.mono (by decide)) (by rfl) (pa_cons (pv 1) (pa_cons (pv 2) pa_nil)) (nx _)) (pv 3) (nomark _)) (pss_one (ps_ret pe_bl)) pss_nil) (pss_cons (ps_for PassesOwn.never rfl (pi_range2 rfl bl.range (pa_cons pe_int (pa_cons pe_int pa_nil))) (pg_name (i := 4) sc_law_single_right.nd rfl (by first | exact .inl rfl | exact .inr rfl)) (pss_cons (ps_set (i := 5) sc_law_single_right.nd rfl (by first | exact .inl rfl | exact .inr rfl) (pe_has G_coins_for (hr.mono (by decide)) (by rfl) (pa_cons (pv 4) (pa_cons (pv 1) (pa_cons (pv 2) pa_nil))) (nx _))) (pss_cons (ps_if (pt_cmpR (op_neD hr.units) (pv 5) (pe_has G_law_coins (hr.mono (by decide)) (by rfl) (pa_cons (pv 4) (pa_cons (pv 3) pa_nil)) (nx _)) (nomark _)) (pss_one (ps_ret pe_bl)) pss_nil) (pss_one (ps_if (pt_cmpR op_notN (pv 5) pe_non (nomark _)) (pss_cons (ps_set (i := 6) sc_law_single_right.nd rfl (by first | exact .inl rfl | exact .inr rfl) (pe_callTy call_tuple_of (by rfl) bl.tuple bb_tuple (pa_cons (pe_lc (own := [("_law_k", 8)]) (g := (gName 8)) (by rfl) sc_law_single_right.nd (pi_range1 rfl bl.range (pa_cons (pe_has G_law_next (hr.mono (by decide)) (by rfl) (pa_cons (pv 0) (pa_cons pe_int pa_nil)) (nx _)) pa_nil)) (blkOk_by (own := [("_law_k", 8)]) (N := n_law_single_right) (sc := defScope s_law_single_right) (by decide +kernel)) (fun _ _ _ _ _ => (pg_name (i := 8) sc_law_single_right.nd rfl (Or.inl rfl) (Or.inr rfl))) (fun _ _ _ _ _ => pts_nil) (fun _ _ _ _ _ => (pe_has G_law_next (hr.mono (by decide)) (by rfl) (pa_cons (pv 0) (pa_cons pe_int pa_nil)) (nx _)))) pa_nil))) (pss_cons (ps_setLc (i := 7) (own := [("_law_k", 8)]) (g := (gName 8)) (by rfl) sc_law_single_right.nd rfl rfl (sw_true rfl rfl rfl (by decide +kernel)) (pi_range1 rfl bl.range (pa_cons (pe_has G_law_next (hr.mono (by decide)) (by rfl) (pa_cons (pv 0) (pa_cons pe_int pa_nil)) (nx _)) pa_nil)) (blkOk_by (own := [("_law_k", 8)]) (N := n_law_single_right) (sc := defScope s_law_single_right) (by decide +kernel)) (fun _ _ _ _ _ => (pg_name (i := 8) sc_law_single_right.nd rfl (Or.inl rfl) (Or.inr rfl))) (fun _ _ _ _ _ => pts_nil) (fun _ _ _ _ _ => (pe_has G_law_next (hr.mono (by decide)) (by rfl) (pa_cons (pv 0) (pa_cons pe_int pa_nil)) (nx _)))) (pss_one (ps_if (pt_cmpR (op_neD hr.units) (pe_has G_toss (hr.mono (by decide)) (by rfl) (pa_cons (pe_op op_cat (pe_callTy call_list_of (by rfl) bl.list bb_list (pa_cons (pe_op op_catA (pv 6) (pv 5)) pa_nil)) (pv 7)) (pa_cons (pe_callB call_len_seq (by rfl) bl.len bb_len (pa_cons (pv 6) pa_nil)) (pa_cons (pv 1) (pa_cons (pv 2) pa_nil)))) (nx _)) (pe_tup (pa_cons (pv 4) (pa_cons (pe_op op_add (pe_callB call_len_seq (by rfl) bl.len bb_len (pa_cons (pv 6) pa_nil)) (pe_callB call_len_seq (by rfl) bl.len bb_len (pa_cons (pv 5) pa_nil))) pa_nil))) (nomark _)) (pss_one (ps_ret pe_bl)) pss_nil)))) pss_nil))))) (pss_one (ps_ret pe_bl)))))), ?_⟩
  have hna := hs.ne
  refine ⟨_, rfl, by show 5 ≤ sizeLine; decide, fun p hp => ?_⟩
  have pa : a ≠ p := fun z => by subst z; exact hna hp
  refine ⟨a, .ref p, _, true, ([0, 1, 2, 5, 60] : List Int).map .int, rfl, one_ex upd_same, one_ne pa, hs.mono (Ex.new hp), .lst (sq_of upd_same) (DpAll.of_ints [0, 1, 2, 5, 60]), by show 0 < 5; decide, by show 5 ≤ 1000; decide, fun d v H1 hd hv e1 s1 => ?_⟩
  obtain ⟨t, ht, rfl⟩ := List.mem_map.mp hd
  have t0 : 0 ≤ t := by
    simp only [List.mem_cons, List.not_mem_nil, or_false] at ht
    omega
  rw [hv.int_of]
  have g1 : GrA a B H B H1 := (GrA.of (Gr.mut x hp)).next ba ((hs.mono (Ex.new hp)).ne) e1
  refine qd_asg (K := K) (d := optD (limR r t)) g1.g2 (u_law_end (d_var rfl h2) (d_var rfl (.int t))) fun ve G2 H2 g2 hve => ?_
  have hveB : ∀ G, Dp K G ve (optD (limR r t)) := fun G => by
    cases hlim : limR r t with
    | none =>
      rw [hlim] at hve
      rw [hve.non_of]
      exact .non
    | some l =>
      rw [hlim] at hve
      rw [Dp.int_of (i := l) hve]
      exact .int l
  have gb := g1.next ba s1.ne (.of g2.h12)
  have s2 := s1.mono g2.h12
  refine qd_no gb.g2 (et_is (t_test (K := K) (d_op (u_most (d_var rfl h2) (d_var rfl (.int t)) ok t0) (d_var rfl (hveB B)) fun _ _ => rd_ne (by cases limR r t <;> rfl))) (by
    have e : eqS (optD (limR r t)) (optD (limR r t)) = true := by
      cases limR r t with
      | none => rfl
      | some l => exact decide_eq_true rfl
    rw [e]
    rfl)) fun H3 e3 => ?_
  have gc := gb.next ba s2.ne (.of e3)
  have s3 := s2.mono e3
  refine ⟨1, 12, rfl, ⟨by decide, by decide, by decide, by decide⟩, ?_⟩
  refine for_range (fun i σ' H' => (∃ a4 a5 a6 a7 a8, σ' = [some (.ref a), some v2, some (.int t), some ve, a4, a5, a6, a7, a8]) ∧ GrA a B H B H' ∧ SrcAt H' a) ⟨⟨_, _, _, _, _, rfl⟩, gc, s3⟩ ?_ ?_
  · rintro i σ' H' hi ⟨⟨a4, a5, a6, a7, a8, rfl⟩, g, sa⟩
    have hi11 : i < 11 := hi
    generalize hhe : (1 : Int) + (i : Int) = h
    have h1h : 1 ≤ h := by omega
    have h2h : h ≤ 1000 := by omega
    refine qd_asg (K := K) g.g2 (u_coins_for (h := h) (d_var rfl (.int h)) (d_var rfl h2) (d_var rfl (.int t)) h1h h2h ok t0) fun vc G4 H4 g4 hvc => ?_
    have g4A := g.trans (GrA.of g4) sa.ne
    have s4 := sa.mono g4.h12
    have a4n := g4A.free ba hna
    have h2G := dp_mono g4.hg h2
    refine qd_no g4.g2 (t_test (K := K) (d_op (d_var rfl hvc) (u_law_coins (h := h) (g := limR r t) (d_var rfl (.int h)) (d_var rfl (hveB G4)) h1h h2h) fun _ _ => rd_neS 1 (ok_optT 0 _) (by decide))) fun H5 e5 => ?_
    have x5 := g4.g2.trans e5
    have s5 := s4.mono e5
    have back : ∀ H6, Ex H H6 → True := fun _ _ => trivial
    cases hc : cwL h (limR r t) with
    | none =>
      rw [hc] at hvc
      exact sd_no x5 (t_test (K := K) (d_op (d_var rfl hvc) d_non fun _ _ => rd_notN)) fun H6 e6 => ⟨⟨_, _, _, _, _, rfl⟩, g.next ba sa.ne (.of ((g4.h12.trans e5).trans e6)), s5.mono e6⟩
    | some c =>
      rw [hc] at hvc
      have hcn := cwL_len hc h1h (by omega)
      refine sd_when (b := true) x5 (t_test (K := K) (d_op (d := .tuple (c.map .int)) (d_var rfl hvc) d_non fun _ _ => rd_notN)) (fun _ H6 e6 => ?_) fun z => Bool.noConfusion z
      have x6 := x5.trans e6
      have s6 := s5.mono e6
      have gm : GrA a G4 H6 G4 H6 := GrA.of (Gr.refl x6)
      -- ahead
      refine qd_asgTup (lc_draw (σ := [some (.ref a), some v2, some (.int t), some ve, some (.int h), some vc, a6, a7, a8]) (i := 8) (B := G4) (mm := 4) (kk := 2) rfl (fun _ => rfl) (fun _ => rfl) x6 a4n s6 (by decide) (by decide) (by decide) (by decide) fun ns p1 H7 hn1 hns1 g7 s7 hp1 hl1 => ?_)
      refine ⟨p1, _, rfl, .inl ⟨sq_of hl1, fun T1 hT1 => ?_⟩⟩
      have hx7 : Ex G4 (upd H7 T1 (.tup (ns.map V.int))) := g7.g2.trans (Ex.new hT1)
      have s8 := s7.mono (Ex.new (o := .tup (ns.map V.int)) hT1)
      have T1G : G4 T1 = none := fresh_back g7.g2 hT1
      have T1a : T1 ≠ a := fun z => by subst z; exact s7.ne hT1
      have gT := ex_add hx7 (upd_same (H := H7) (a := T1) (o := .tup (ns.map V.int)))
      have eT : Ex G4 (upd G4 T1 (.tup (ns.map V.int))) := Ex.new T1G
      have hT : Dp K (upd G4 T1 (.tup (ns.map V.int))) (.ref T1) (.tuple (ns.map .int)) := .tup (st_of upd_same) (DpAll.of_ints ns)
      have aT : (upd G4 T1 (.tup (ns.map V.int))) a = none := by rw [upd_ne T1a.symm]; exact a4n
      generalize upd G4 T1 (.tup (ns.map V.int)) = G5 at *
      have e78 : Exa a H6 (upd H7 T1 (.tup (ns.map V.int))) := g7.h12.trans (.of (Ex.new hT1))
      generalize upd H7 T1 (.tup (ns.map V.int)) = H8 at *
      -- tail
      refine qd_asgC (lc_draw (σ := [some (.ref a), some v2, some (.int t), some ve, some (.int h), some vc, some (.ref T1), a7, a8]) (i := 8) (B := G5) (mm := 4) (kk := 2) rfl (fun _ => rfl) (fun _ => rfl) gT aT s8 (by decide) (by decide) (by decide) (by decide) fun ms p2 H9 hn2 hns2 g9 s9 hp2 hl2 => ?_)
      have p2G : G5 p2 = none := fresh_back gT hp2
      have xF := ex_add g9.g2 hl2
      have eF : Ex G5 (upd G5 p2 (.lst (ms.map V.int))) := Ex.new p2G
      have hlF : (upd G5 p2 (.lst (ms.map V.int))) p2 = some (.lst (ms.map V.int)) := upd_same
      generalize upd G5 p2 (.lst (ms.map V.int)) = G6 at *
      have hTF := dp_mono eF hT
      have hcF := dp_mono (eT.trans eF) hvc
      have h2F := dp_mono (eT.trans eF) h2G
      have cat : EvDL K (tOp rCat (tCB (fun xs H Q => ∃ p ys, xs = [V.ref p] ∧ (SqL K H p ys ∨ SqT K H p ys) ∧ ∀ l, H l = none → Q (.ref l) (upd H l (.lst ys))) (tCons (tOp (rCatA K) (tVar 6) (tVar 5)) tNil)) (tVar 7)) [some (.ref a), some v2, some (.int t), some ve, some (.int h), some vc, some (.ref T1), some (.ref p2), a8] G6 ((ns ++ c ++ ms).map .int) := by
        intro H1 x Q q
        refine dl_cb (K := K) (da_cons (d_op (d_var rfl hTF) (d_var rfl hcF) fun _ _ => rd_catA (by rw [List.length_map, List.length_map]; omega)) da_nil) (fun _ _ => rcdl_list (b := false)) H1 x _ fun p xs G H2 g0 h0 g hp hxs => ?_
        have hl2' : H2 p2 = some (.lst (ms.map V.int)) := g.h12 _ _ (x _ _ hlF)
        have hxl := hxs.length
        rw [List.length_append, List.length_map, List.length_map] at hxl
        refine ⟨_, rfl, p, p2, xs, _, rfl, rfl, hp, hl2', sz_of (by rw [List.length_map]; omega), fun p3 hp3 => q p3 _ G _ (fresh_back g.g2 hp3) (fresh_back g.h12 hp3) (g.trans (Gr.mut g.g2 hp3)) upd_same ?_⟩
        rw [List.map_append, List.map_append]
        exact hxs.append (DpAll.of_ints ms)
      have lenA : EvD K (tCB (fun xs H Q => ∃ p ys, xs = [V.ref p] ∧ (SqL K H p ys ∨ SqT K H p ys) ∧ Q (.int ys.length) H) (tCons (tVar 6) tNil)) [some (.ref a), some v2, some (.int t), some ve, some (.int h), some vc, some (.ref T1), some (.ref p2), a8] G6 (.int (ns.length : Nat)) := d_is (d_cb (da_cons (d_var rfl hTF) da_nil) fun _ _ => rcd_len (b := false)) (by rw [List.length_map])
      have lenC : EvD K (tCB (fun xs H Q => ∃ p ys, xs = [V.ref p] ∧ (SqL K H p ys ∨ SqT K H p ys) ∧ Q (.int ys.length) H) (tCons (tVar 5) tNil)) [some (.ref a), some v2, some (.int t), some ve, some (.int h), some vc, some (.ref T1), some (.ref p2), a8] G6 (.int (c.length : Nat)) := d_is (d_cb (da_cons (d_var rfl hcF) da_nil) fun _ _ => rcd_len (b := false)) (by rw [List.length_map])
      have h01 : ∀ x ∈ ns ++ c ++ ms, x = 0 ∨ x = 1 := fun x hx => by
        rcases List.mem_append.mp hx with hx | hx
        · rcases List.mem_append.mp hx with hx | hx
          · have := hns1 x hx
            omega
          · exact cwL_01 hc x hx
        · have := hns2 x hx
          omega
      have hdr : groF (limR r t) 1 ((ns ++ c ++ ms).drop ns.length) = some (h, c.length) := by
        rw [List.append_assoc, List.drop_left]
        exact cw_gro hc h1h
      refine sd_no xF (t_test (K := K) (d_op (u_toss (b := true) (cs := ns ++ c ++ ms) (n0 := ns.length) (dl_d cat) lenA (d_var rfl h2F) (d_var rfl (.int t)) h01 (by rw [List.length_append, List.length_append]; omega) ok t0 hdr) (d_tup (da_cons (d_var rfl (.int h)) (da_cons (d_op lenA lenC fun _ _ => rd_int) da_nil)) (by show 2 ≤ 100000; decide)) fun _ _ => rd_neS 1 rfl (by decide))) fun H10 e10 => ?_
      refine ⟨⟨_, _, _, _, _, rfl⟩, g.next ba sa.ne ((((Exa.of ((g4.h12.trans e5).trans e6)).trans e78).trans g9.h12).trans (.of e10)), s9.mono e10⟩
  · rintro σ' H' ⟨⟨a4, a5, a6, a7, a8, rfl⟩, g, sa⟩
    exact q H' g sa
end
end Tk
end

section
set_option Elab.async false
set_option linter.all false
set_option maxRecDepth 100000
set_option maxHeartbeats 400000
/-! k04, how coins and heights lead to one another. -/
namespace Tk
open PySem PySem.Spec PyProof.Rows L2 Evl Tb
/-- heights but those at the end that come without a coin, from the front -/
def trimF (r : Ru) : Int → List Int → List Int
  | _, [] => []
  | t, h :: hs => if dueF r t (h :: hs) = some [] then [] else h :: trimF r (max t h) hs
theorem due_split {r : Ru} {t h : Int} {hs cs : List Int} (e : dueF r t (h :: hs) = some cs) : ∃ c cs', cwL h (limR r t) = some c ∧ dueF r (max t h) hs = some cs' ∧ cs = c ++ cs' := by
  cases hc : cwL h (limR r t) with
  | none =>
    rw [dueF_none hc] at e
    cases e
  | some c =>
    rw [dueF_cons hc] at e
    cases hd : dueF r (max t h) hs with
    | none =>
      rw [hd] at e
      cases e
    | some cs' =>
      rw [hd] at e
      cases e
      exact ⟨c, cs', rfl, rfl, rfl⟩
theorem rd_due {r : Ru} : ∀ {hs : List Int} {t : Int} {cs : List Int} {n : Nat}, (∀ h ∈ hs, 1 ≤ h) → dueF r t hs = some cs → hs.length < n → rdF r n t cs = some (trimF r t hs)
  | [], t, cs, n + 1, _, e, _ => by
    cases e
    rw [rdF, if_pos rfl]
    rfl
  | h :: hs, t, cs, n + 1, h1, e, hn => by
    obtain ⟨c, cs', hc, hd, rfl⟩ := due_split e
    by_cases z : c ++ cs' = []
    · rw [trimF, if_pos (by rw [e, z]), z, rdF, if_pos rfl]
    · rw [trimF, if_neg (by rw [e]; exact fun y => z (Option.some.inj y)), rdF, if_neg z, cw_gro hc (h1 h (List.mem_cons_self ..))]
      show (rdF r n (max t h) ((c ++ cs').drop c.length)).map (h :: ·) = _
      rw [List.drop_left, rd_due (fun y hy => h1 y (List.mem_cons_of_mem _ hy)) hd (by rw [List.length_cons] at hn; omega)]
      rfl
theorem due_snoc {r : Ru} {h : Int} : ∀ {hs : List Int} {t : Int} {cs : List Int}, dueF r t (hs ++ [h]) = some cs → ∃ cs1 c, dueF r t hs = some cs1 ∧ cs = cs1 ++ c ∧ (c = [] → trimF r t (hs ++ [h]) = trimF r t hs) ∧ (c ≠ [] → trimF r t (hs ++ [h]) = hs ++ [h])
  | [], t, cs, e => by
    obtain ⟨c, cs', hc, hd, rfl⟩ := due_split (hs := []) e
    have hd' : cs' = [] := by
      cases hd
      rfl
    subst hd'
    refine ⟨[], c, rfl, by rw [List.append_nil]; rfl, fun z => ?_, fun z => ?_⟩
    · subst z
      have e1 : dueF r t [h] = some [] := e
      show trimF r t [h] = []
      rw [trimF, if_pos e1]
    · show trimF r t [h] = [h]
      rw [trimF, if_neg fun y => z (by
        have k := e.symm.trans y
        rw [List.append_nil] at k
        exact Option.some.inj k)]
      rfl
  | k :: hs, t, cs, e => by
    obtain ⟨c0, cs', hc, hd, rfl⟩ := due_split (hs := hs ++ [h]) e
    obtain ⟨cs1, c, i1, rfl, i3, i4⟩ := due_snoc hd
    have eF : dueF r t (k :: hs) = some (c0 ++ cs1) := by
      rw [dueF_cons hc, i1]
      rfl
    refine ⟨c0 ++ cs1, c, eF, (List.append_assoc ..).symm, fun z => ?_, fun z => ?_⟩
    · have k3 := i3 z
      have e' : dueF r t (k :: (hs ++ [h])) = some (c0 ++ cs1) := by
        rw [z, List.append_nil] at e
        exact e
      show trimF r t (k :: (hs ++ [h])) = trimF r t (k :: hs)
      rw [trimF, trimF, k3, eF, e']
    · show trimF r t (k :: (hs ++ [h])) = k :: (hs ++ [h])
      have e' : dueF r t (k :: (hs ++ [h])) = some (c0 ++ (cs1 ++ c)) := e
      rw [trimF, e', if_neg fun y => z ?_, i4 z]
      have k2 := Option.some.inj y
      rw [List.append_eq_nil_iff, List.append_eq_nil_iff] at k2
      exact k2.2.2
theorem bare_trim {r : Ru} : ∀ (n : Nat) {ns cs : List Int}, ns.length = n → dueF r 0 ns = some cs → bareF r n ns = trimF r 0 ns
  | 0, ns, cs, hn, _ => by
    cases ns with
    | nil => rfl
    | cons a l => cases hn
  | n + 1, ns, cs, hn, e => by
    have hne : ns ≠ [] := fun z => by rw [z] at hn; cases hn
    obtain ⟨pre, h, rfl⟩ : ∃ pre h, ns = pre ++ [h] := ⟨ns.dropLast, ns.getLast hne, (List.dropLast_concat_getLast hne).symm⟩
    obtain ⟨cs1, c, e1, rfl, f1, f2⟩ := due_snoc e
    have hl : pre.length = n := by
      rw [List.length_append] at hn
      exact Nat.succ.inj hn
    rw [bareF, List.dropLast_concat]
    by_cases z : c = []
    · rw [if_pos ⟨hne, by rw [e, e1, z, List.append_nil]⟩, bare_trim n hl e1, f1 z]
    · rw [if_neg fun y => z ?_, f2 z]
      have k := y.2
      rw [e, e1] at k
      have k2 := Option.some.inj k
      exact List.append_right_eq_self.mp k2
/-- what is read off is told by the heights -/
theorem gro_cw {lim : Option Int} : ∀ {cs : List Int} {k h : Int} {n : Nat}, (∀ c ∈ cs, c = 0 ∨ c = 1) → (∀ l, lim = some l → k ≤ l) → groF lim k cs = some (h, n) →
    k ≤ h ∧ (∀ l, lim = some l → h ≤ l) ∧ cs.take n = List.replicate (h - k).toNat 1 ++ (if lim = some h then [] else [0]) ∧ n ≤ cs.length ∧ h ≤ k + cs.length
  | [], k, h, n, _, hl, e => by
    rw [groF] at e
    split at e
    · cases e
    · rename_i o
      cases e
      have hk : lim = some k := by
        cases lim with
        | none => exact absurd rfl o
        | some l =>
          have h1 := hl l rfl
          have h2 : ¬ (k < l) := fun z => o (decide_eq_true z)
          rw [show l = k by omega]
      refine ⟨Int.le_refl _, hl, ?_, Nat.le_refl _, by show k ≤ k + 0; omega⟩
      rw [if_pos hk, Int.sub_self]
      rfl
  | c :: cs, k, h, n, h01, hl, e => by
    rw [groF] at e
    split at e
    · rename_i o
      have hlt : ∀ l, lim = some l → k < l := fun l z => by
        rw [z] at o
        exact of_decide_eq_true o
      split at e
      · rename_i z
        cases e
        subst z
        refine ⟨Int.le_refl _, hl, ?_, by rw [List.length_cons]; omega, by omega⟩
        rw [if_neg fun y => by have := hlt k y; omega, Int.sub_self]
        rfl
      · rename_i z
        have hc : c = 1 := (h01 c (List.mem_cons_self ..)).resolve_left z
        subst hc
        cases q : groF lim (k + 1) cs with
        | none =>
          rw [q] at e
          cases e
        | some p =>
          rw [q] at e
          cases e
          obtain ⟨p1, p2⟩ := p
          obtain ⟨i1, i2, i3, i4, i5⟩ := gro_cw (fun x hx => h01 x (List.mem_cons_of_mem _ hx)) (fun l y => by have := hlt l y; omega) q
          refine ⟨by show k ≤ p1; omega, i2, ?_, by rw [List.length_cons]; show p2 + 1 ≤ _; omega, by rw [List.length_cons]; show p1 ≤ k + ((cs.length + 1 : Nat) : Int); omega⟩
          show (1 :: cs).take (p2 + 1) = List.replicate (p1 - k).toNat 1 ++ (if lim = some p1 then [] else [0])
          rw [List.take_succ_cons, i3, show (p1 - k).toNat = (p1 - (k + 1)).toNat + 1 by omega, List.replicate_succ]
          rfl
    · rename_i o
      cases e
      have hk : lim = some k := by
        cases lim with
        | none => exact absurd rfl o
        | some l =>
          have h1 := hl l rfl
          have h2 : ¬ (k < l) := fun z => o (decide_eq_true z)
          rw [show l = k by omega]
      refine ⟨Int.le_refl _, hl, ?_, Nat.zero_le _, by omega⟩
      rw [if_pos hk, Int.sub_self]
      rfl
theorem cw_of {lim : Option Int} {h : Int} (hl : ∀ l, lim = some l → h ≤ l) : cwL h lim = some (List.replicate (h - 1).toNat 1 ++ (if lim = some h then [] else [0])) := by
  cases lim with
  | none =>
    rw [if_neg fun z => nomatch z]
    rfl
  | some l =>
    have h1 := hl l rfl
    show (if l < h then none else some (List.replicate (h - 1).toNat (1 : Int) ++ (if h = l then [] else [0]))) = _
    rw [if_neg (by omega)]
    by_cases c : h = l
    · rw [if_pos c, if_pos (by rw [c])]
    · rw [if_neg c, if_neg fun z => c (Option.some.inj z).symm]
theorem due_rd {r : Ru} (ok : okR r) : ∀ {n : Nat} {t : Int} {cs l : List Int}, 0 ≤ t → (∀ c ∈ cs, c = 0 ∨ c = 1) → 2 * cs.length + (if t = 0 then 1 else 0) ≤ n → (cs ≠ [] → limR r 1 ≠ some 1) → rdF r n t cs = some l → dueF r t l = some cs ∧ l.length ≤ n ∧ ∀ h ∈ l, 1 ≤ h ∧ h ≤ 1 + cs.length
  | 0, t, cs, l, ht, _, hn, _, e => by
    have : cs.length = 0 := by omega
    have e0 : cs = [] := List.eq_nil_of_length_eq_zero this
    subst e0
    cases e
    exact ⟨rfl, Nat.le_refl _, fun h hh => by cases hh⟩
  | n + 1, t, cs, l, ht, h01, hn, hb, e => by
    rw [rdF] at e
    split at e
    · rename_i z
      cases e
      rw [z]
      exact ⟨rfl, Nat.zero_le _, fun h hh => by cases hh⟩
    · rename_i z
      cases q : groF (limR r t) 1 cs with
      | none =>
        rw [q] at e
        cases e
      | some p =>
        rw [q] at e
        obtain ⟨h, k⟩ := p
        obtain ⟨i1, i2, i3, i4, i5⟩ := gro_cw h01 (fun l y => limR_pos ok ht y) q
        replace e : (rdF r n (max t h) (cs.drop k)).map (h :: ·) = some l := e
        cases q2 : rdF r n (max t h) (cs.drop k) with
        | none =>
          rw [q2] at e
          cases e
        | some l' =>
          rw [q2] at e
          cases e
          have hmax : ¬ (max t h = 0) := by omega
          have hk1 : t ≠ 0 → 1 ≤ k := fun y => (groF_facts q).2.2 (lim_two ok (by omega) (hb z))
          obtain ⟨j1, j2, j3⟩ := due_rd ok (n := n) (t := max t h) (cs := cs.drop k) (by omega) (fun c hc => h01 c (List.mem_of_mem_drop hc)) (by
            rw [if_neg hmax, List.length_drop]
            by_cases y : t = 0
            · rw [if_pos y] at hn
              omega
            · have := hk1 y
              rw [if_neg y] at hn
              omega) (fun _ => hb z) q2
          have hc := cw_of (h := h) i2
          refine ⟨?_, by rw [List.length_cons]; omega, fun x hx => ?_⟩
          · rw [dueF_cons hc, j1, ← i3]
            exact congrArg some (List.take_append_drop k cs)
          · rcases List.mem_cons.mp hx with rfl | hx
            · exact ⟨i1, by omega⟩
            · have := j3 x hx
              rw [List.length_drop] at this
              exact ⟨this.1, by omega⟩
end Tk
end

section
set_option Elab.async false
set_option linter.all false
set_option maxRecDepth 100000
set_option maxHeartbeats 1000000
/-! k04, what heights_of says, also of coins that it refuses. -/
namespace Tk
open PySem PySem.Spec PyProof.Rows L2 Evl Tb
abbrev s_law_said : Stmt := topS 40
abbrev n_law_said : List Str := ["_law_coins_here", "_law_rule_here", "e"]
theorem sc_law_said : FnScope n_law_said ["_law_coins_here", "_law_rule_here"] (defScope s_law_said) := ⟨rfl, rfl, rfl, by decide +kernel, rfl, by decide +kernel, by decide +kernel⟩

def R_law_said (ds : List PyData) (z : PyData) : Prop := ∃ (b : Bool) (cs : List Int) (b2 : Bool) (r : Ru), ds = [rows b (cs.map .int), ruD b2 r] ∧ (∀ c ∈ cs, c = 0 ∨ c = 1) ∧ okR r ∧ cs.length ≤ 20000 ∧ z = outD r cs
/-- the suite of one clause: a word, and the field index -/
def tSaid (C : Addr) (wd : Str) (a : Addr) (cls : Value) (d : Option Addr) : TS := tRet (tTup (tCons (tC (.str wd)) (tCons (tXf a cls d C "index" (tVar 2)) tNil)))
section
variable {P : Program} {w : World} {K : PySem.W.Frag} {mg : Str → Option Value} {base : Heap} {f : Addr} {fd : FuncData}
theorem said_suite {B H H' : Hp} {a C d : Addr} {σ : L2.St} {k : Int} {wd : Str} {D : Ends} (x : Ex B H) (e : Ex H H') (hd : H d = none) (hx : H' d = some (.xd [("index", .int k)])) (hσ : σ[2]? = some (some (.ref a)))
    (q : ∀ v G H2, Gr B H G H2 → Dp K G v (.tuple [.str wd, .int k]) → D.rt v H2) : tSaid C wd a (.ref C) (some d) D σ H' := by
  have hB : B d = none := by
    cases hb : B d with
    | none => rfl
    | some o =>
      have := x d o hb
      rw [hd] at this
      cases this
  let B2 : Hp := upd B d (.xd [("index", .int k)])
  have g1 : Ex B B2 := Ex.new hB
  have g2 : Ex B2 H' := fun b o hb => by
    by_cases c : b = d
    · subst c
      have : B2 b = some (.xd [("index", .int k)]) := upd_same
      rw [this] at hb
      cases hb
      exact hx
    · have : B2 b = B b := upd_ne c
      rw [this] at hb
      exact e b o (x b o hb)
  have ev : EvD K (tXf a (.ref C) (some d) C "index" (tVar 2)) σ B2 (.int k) := fun H1 x1 Q q1 =>
    ⟨.ref a, hσ, rfl, rfl, d, [("index", .int k)], .int k, rfl, x1 d _ upd_same, rfl, q1 _ B2 H1 (.refl x1) (.int k)⟩
  refine sd_ret (K := K) g2 (d_tup (da_cons (d_str (x := wd)) (da_cons ev da_nil)) (by simp)) fun v G H2 g hv => q v G H2 ⟨g1.trans g.hg, g.g2, e.trans g.h12, fun b hb hh => g.sep b ?_ ?_⟩ hv
  · have hne : b ≠ d := fun z => hh (by rw [z]; exact hd)
    show B2 b = none
    have : B2 b = B b := upd_ne hne
    rw [this]
    exact hb
  · cases hb2 : H b with
    | none => exact absurd hb2 hh
    | some o =>
      rw [e b o hb2]
      exact fun z => nomatch z
theorem H_law_said {CX : CXT} {CS CP : Addr} (G_heights_of : Has P w K mg base (L2.CX P w) "heights_of" 5 ["coins", "rule"] [] (spHof K CS CP))
    (gS : mg "Short" = some (.ref CS)) (gP : mg "Spare" = some (.ref CP)) (TS_ : XfC K CS) (TP_ : XfC K CP) (nS : PySem.W.findIn K (.ref CS) "index" = some none) (nP : PySem.W.findIn K (.ref CP) "index" = some none)
    (hSS : PySem.W.exmOne K (.ref CS) (.ref CS) = some true) (hPS : PySem.W.exmOne K (.ref CP) (.ref CS) = some false) (hPP : PySem.W.exmOne K (.ref CP) (.ref CP) = some true)
    (F : FunD K "_law_said" "_law_said" (defArgs s_law_said) (defBody s_law_said) (defScope s_law_said) [] [] f fd) (hm : mg "_law_said" = some (.ref f)) :
    Has P w K mg base CX "_law_said" 6 ["_law_coins_here", "_law_rule_here"] [] (spP K 2 R_law_said) := by
  refine has_mk F hm sc_law_said (spP_len rfl) (fun _ _ _ _ _ _ us hl => match us, hl with | [_, _], _ => rfl) fun cdv A outer s H vs Q E hr h => ?_
  obtain ⟨B, ds, z, x, hl, hd, ⟨b, cs, b2, r, rfl, hc01, ok, hlen, rfl⟩, q⟩ := h
  obtain ⟨fh, fdh, dsh, Fh, mh, kh, vh, bh⟩ := G_heights_of.ex
  cases vh
  have hr5 := hr.mono (j := 5) (by decide)
  refine ⟨_, pss_one (ps_try_named (tb := fun W => tRet (tCallS (spHof K CS CP) (WE W) (tCons (tVar 0) (tCons (tVar 1) tNil)))) (Wout := fun _ _ _ _ => False) (l := [(.ref CS, 2, tSaid CS "short"), (.ref CP, 2, tSaid CP "spare")]) rfl rfl sc_law_said.nd takes0
    (fun W pn xe tk _ => pss_one (ps_ret (by exact (pe_callS Fh hr5 (by rfl) mh kh bh (fun σ => passAt tk σ) (by exact (pa_cons (pv 0) (pa_cons (pv 1) pa_nil)))))))
    (.cons rfl rfl ⟨rfl, by decide, .inl gS⟩ (fun a oe cls d pn hz hf => pss_one (ps_ret (pe_tup (pa_cons pe_str (pa_cons (pe_xf TS_ nS hz hf (pv 2)) pa_nil)))))
      (.cons rfl rfl ⟨rfl, by decide, .inl gP⟩ (fun a oe cls d pn hz hf => pss_one (ps_ret (pe_tup (pa_cons pe_str (pa_cons (pe_xf TP_ nP hz hf (pv 2)) pa_nil))))) .nil))), ?_⟩
  match vs, hd with
  | [v1, v2], .cons h1 (.cons h2 .nil) =>
    have hz0 : ∀ d' H', Ex H H' → H d' = none → H' d' = some (.xd [("index", .int 0)]) → badR r cs → wNam K (fun _ _ _ _ => False) { nx := fun _ H' => Q .non H', rt := Q } [(.ref CS, 2, tSaid CS "short"), (.ref CP, 2, tSaid CP "spare")] (.ref CP) (some d') [some v1, some v2, none] H' := fun d' H' e hd' hx hb =>
      ⟨false, hPS, fun z => Bool.noConfusion z, fun _ => ⟨true, hPP, fun _ a ha => said_suite (K := K) x e hd' hx rfl (by rw [← outD_bad hb]; exact q), fun z => Bool.noConfusion z⟩⟩
    have hz1 : ∀ d' H', Ex H H' → H d' = none → H' d' = some (.xd [("index", .int (cs.length : Nat))]) → ¬ badR r cs → rdF r (2 * cs.length + 1) 0 cs = none → wNam K (fun _ _ _ _ => False) { nx := fun _ H' => Q .non H', rt := Q } [(.ref CS, 2, tSaid CS "short"), (.ref CP, 2, tSaid CP "spare")] (.ref CS) (some d') [some v1, some v2, none] H' := fun d' H' e hd' hx hb hn =>
      ⟨true, hSS, fun _ a ha => said_suite (K := K) x e hd' hx rfl (by rw [← outD_none hb hn]; exact q), fun z => Bool.noConfusion z⟩
    refine ⟨v1, rfl, v2, rfl, B, v1, v2, b, b2, cs, r, rfl, x, h1, h2, hc01, ok, hlen, fun hb d' H' e hd' hx => hz0 d' H' e hd' hx hb, fun hb => ⟨fun l hl' v G H' g hv => q v G H' g (by rw [outD_some hb hl']; exact hv), fun hn d' H' e hd' hx => hz1 d' H' e hd' hx hb hn⟩⟩
end
end Tk
end

section
set_option Elab.async false
set_option linter.all false
set_option maxRecDepth 100000
set_option maxHeartbeats 1000000
/-! Walks by meaning 1: what a def's slots hold, and how one step leads to the next. -/
namespace Fd
open PySem PySem.Spec PyProof.Rows L2 Evl Tb

/-- what a slot holds: nothing, data, a list of one's own, a list that was handed in to be changed -/
inductive Sl where
  | no
  | d (x : PyData)
  | o (xs : List PyData)
  | p (xs : List PyData)
abbrev En := List Sl
def Sl.own : Sl → Option (List PyData)
  | .o xs => some xs
  | .p xs => some xs
  | _ => none
def Sl.isP : Sl → Bool
  | .p _ => true
  | _ => false
/-- b is the address of a list that the slots own -/
def Ow (σ : L2.St) (e : En) (b : Addr) : Prop := ∃ (i : Nat) (s : Sl) (xs : List PyData), e[i]? = some s ∧ s.own = some xs ∧ σ[i]? = some (some (.ref b))
/-- what holds for a whole run of a def: K, what may be changed, which slots hold what was handed in -/
structure Wo where
  K : PySem.W.Frag
  M : Addr → Prop
  pn : Nat → Option Addr
structure At (W : Wo) (σ : L2.St) (e : En) (B H : Hp) : Prop where
  ex : Ex B H
  nm : ∀ b, H b = none → W.M b
  len : σ.length = e.length
  dat : ∀ (i : Nat) x, e[i]? = some (.d x) → ∃ v, σ[i]? = some (some v) ∧ Dp W.K B v x
  own : ∀ (i : Nat) s xs, e[i]? = some s → s.own = some xs → ∃ p vs, σ[i]? = some (some (.ref p)) ∧ W.M p ∧ B p = none ∧ H p = some (.lst vs) ∧ DpAll W.K B vs xs
  sep : ∀ (i j : Nat) s t (p : Addr) xs ys, e[i]? = some s → s.own = some xs → e[j]? = some t → t.own = some ys → σ[i]? = some (some (.ref p)) → σ[j]? = some (some (.ref p)) → i = j
  pin : ∀ (i : Nat) a, W.pn i = some a → (∃ xs, e[i]? = some (.p xs)) ∧ σ[i]? = some (some (.ref a))
/-- growth where only the addresses of M may change -/
structure Go (M : Addr → Prop) (B H B' H' : Hp) : Prop where
  hg : Ex B B'
  fr : ∀ b o, ¬ M b → H b = some o → H' b = some o
  dm : ∀ b, H' b = none → H b = none
  sp : ∀ b, ¬ M b → B b = none → H b ≠ none → B' b = none
theorem Go.refl (M : Addr → Prop) (B H : Hp) : Go M B H B H := ⟨Ex.refl B, fun _ _ _ h => h, fun _ h => h, fun _ _ h _ => h⟩
theorem Go.trans {M : Addr → Prop} {B H B1 H1 B2 H2 : Hp} (a : Go M B H B1 H1) (b : Go M B1 H1 B2 H2) : Go M B H B2 H2 :=
  ⟨a.hg.trans b.hg, fun x o hx h => b.fr x o hx (a.fr x o hx h), fun x h => a.dm x (b.dm x h), fun x h0 h1 h2 => b.sp x h0 (a.sp x h0 h1 h2) fun z => h2 (a.dm x z)⟩
theorem Go.mono {M N : Addr → Prop} {B H B1 H1 : Hp} (h : ∀ b, M b → N b) (a : Go M B H B1 H1) : Go N B H B1 H1 := ⟨a.hg, fun b o hb => a.fr b o fun z => hb (h b z), a.dm, fun b hb => a.sp b fun z => hb (h b z)⟩
theorem Go.gr {M : Addr → Prop} {B H G H2 : Hp} (g : Gr B H G H2) : Go M B H G H2 := ⟨g.hg, fun b o _ h => g.h12 b o h, fun b h => fresh_back g.h12 h, fun b _ => g.sep b⟩
theorem Go.ex {M : Addr → Prop} {B H B' H2 : Hp} (g : Go (fun _ => False) B H B' H2) : Ex H H2 := fun b o h => g.fr b o (fun z => z) h
/-- one step of an expression: e' is what the slots hold behind it -/
structure Gx (σ : L2.St) (e : En) (B H : Hp) (e' : En) (B' H' : Hp) : Prop where
  go : Go (Ow σ e) B H B' H'
  ow : ∀ b, Ow σ e' b → Ow σ e b
theorem Gx.refl (σ : L2.St) (e : En) (B H : Hp) : Gx σ e B H e B H := ⟨.refl _ _ _, fun _ h => h⟩
theorem Gx.trans {σ : L2.St} {e e1 e2 : En} {B H B1 H1 B2 H2 : Hp} (a : Gx σ e B H e1 B1 H1) (b : Gx σ e1 B1 H1 e2 B2 H2) : Gx σ e B H e2 B2 H2 := ⟨a.go.trans (b.go.mono a.ow), fun x h => a.ow x (b.ow x h)⟩
section
variable {W : Wo} {σ : L2.St} {e e' : En} {B H B' H' : Hp}
theorem At.ow (a : At W σ e B H) {b : Addr} (h : Ow σ e b) : W.M b ∧ H b ≠ none ∧ B b = none := by
  obtain ⟨i, s, xs, h1, h2, h3⟩ := h
  obtain ⟨p, vs, g1, g2, g3, g4, _⟩ := a.own i s xs h1 h2
  rw [h3] at g1
  cases g1
  exact ⟨g2, (by rw [g4]; exact fun z => nomatch z), g3⟩
theorem At.goM (a : At W σ e B H) (g : Gx σ e B H e' B' H') : Go W.M B H B' H' := g.go.mono fun b h => (a.ow h).1
/-- nothing of one's own changes, and what is known grows -/
theorem At.gr (a : At W σ e B H) (g : Gr B H B' H') : At W σ e B' H' where
  ex := g.g2
  nm := fun b h => a.nm b (fresh_back g.h12 h)
  len := a.len
  dat := fun i x h => by
    obtain ⟨v, h1, h2⟩ := a.dat i x h
    exact ⟨v, h1, dp_mono g.hg h2⟩
  own := fun i s xs h1 h2 => by
    obtain ⟨p, vs, g1, g2, g3, g4, g5⟩ := a.own i s xs h1 h2
    exact ⟨p, vs, g1, g2, g.sep p g3 (by rw [g4]; exact fun z => nomatch z), g.h12 _ _ g4, dpa_mono g.hg g5⟩
  sep := a.sep
  pin := a.pin
theorem gx_gr (g : Gr B H B' H') : Gx σ e B H e B' H' := ⟨.gr g, fun _ h => h⟩
end

/-! ### what an expression means -/
abbrev Dn (α : Type) := En → Option (α × En)
def SE (K : PySem.W.Frag) (te : TE) (f : Dn PyData) : Prop := ∀ (W : Wo), W.K = K → ∀ (σ : L2.St) (e : En) (B H : Hp), At W σ e B H → ∀ d e', f e = some (d, e') →
  ∀ Q : VK, (∀ v B' H', At W σ e' B' H' → Gx σ e B H e' B' H' → Dp K B' v d → Q v H') → te σ H Q
/-- a new list -/
def SL (K : PySem.W.Frag) (te : TE) (f : Dn (List PyData)) : Prop := ∀ (W : Wo), W.K = K → ∀ (σ : L2.St) (e : En) (B H : Hp), At W σ e B H → ∀ ds e', f e = some (ds, e') →
  ∀ Q : VK, (∀ p vs B' H', At W σ e' B' H' → Gx σ e B H e' B' H' → H p = none → H' p = some (.lst vs) → B' p = none → DpAll K B' vs ds → Q (.ref p) H') → te σ H Q
def ST (K : PySem.W.Frag) (tt : TT) (f : Dn Bool) : Prop := ∀ (W : Wo), W.K = K → ∀ (σ : L2.St) (e : En) (B H : Hp), At W σ e B H → ∀ b e', f e = some (b, e') →
  ∀ Q : Bool → Hp → Prop, (∀ B' H', At W σ e' B' H' → Gx σ e B H e' B' H' → Q b H') → tt σ H Q
def SA (K : PySem.W.Frag) (ta : TA) (f : Dn (List PyData)) : Prop := ∀ (W : Wo), W.K = K → ∀ (σ : L2.St) (e : En) (B H : Hp), At W σ e B H → ∀ ds e', f e = some (ds, e') →
  ∀ Q : List V → Hp → Prop, (∀ vs B' H', At W σ e' B' H' → Gx σ e B H e' B' H' → DpAll K B' vs ds → Q vs H') → ta σ H Q

/-! ### meanings put together -/
def dK {α : Type} (x : α) : Dn α := fun e => some (x, e)
def dBind {α β : Type} (f : Dn α) (g : α → Dn β) : Dn β := fun e => match f e with
  | some (x, e1) => g x e1
  | none => none
def dLift {α : Type} (o : Option α) : Dn α := fun e => match o with
  | some x => some (x, e)
  | none => none
/-- a slot that is read as data: a list of one's own does not change any more -/
def dVar (i : Nat) : Dn PyData := fun e => match e[i]? with
  | some (.d x) => some (x, e)
  | some (.o xs) => some (.list xs, e.set i (.d (.list xs)))
  | _ => none
def dOp (F : PyData → PyData → Option PyData) (f g : Dn PyData) : Dn PyData := dBind f fun x => dBind g fun y => dLift (F x y)
def dUn (F : PyData → Option PyData) (f : Dn PyData) : Dn PyData := dBind f fun x => dLift (F x)
def dCons (f : Dn PyData) (g : Dn (List PyData)) : Dn (List PyData) := dBind f fun x => dBind g fun xs => dK (x :: xs)
def dIf {α : Type} (c : Dn Bool) (f g : Dn α) : Dn α := dBind c fun b => if b = true then f else g
def dAnd (f g : Dn PyData) : Dn PyData := dBind f fun x => match x with
  | .bool true => dBind g fun y => match y with
    | .bool b => dK (.bool b)
    | _ => fun _ => none
  | .bool false => dK (.bool false)
  | _ => fun _ => none
def dOr (f g : Dn PyData) : Dn PyData := dBind f fun x => match x with
  | .bool false => dBind g fun y => match y with
    | .bool b => dK (.bool b)
    | _ => fun _ => none
  | .bool true => dK (.bool true)
  | _ => fun _ => none
def dNot (f : Dn PyData) : Dn PyData := dBind f fun x => match x with
  | .bool b => dK (.bool (!b))
  | _ => fun _ => none
def dTest (f : Dn PyData) : Dn Bool := dBind f fun x => match x with
  | .bool b => dK b
  | _ => fun _ => none
def dAndT (f g : Dn Bool) : Dn Bool := dBind f fun b => if b = true then g else dK false
def dOrT (f g : Dn Bool) : Dn Bool := dBind f fun b => if b = true then dK true else g
def dNotT (f : Dn Bool) : Dn Bool := dBind f fun b => dK (!b)
def small (ds : List PyData) : Bool := decide (ds.length ≤ 100000)
def dTup (f : Dn (List PyData)) : Dn PyData := dBind f fun ds => if small ds = true then dK (.tuple ds) else fun _ => none
def dLst (f : Dn (List PyData)) : Dn (List PyData) := dBind f fun ds => if small ds = true then dK ds else fun _ => none
def dFz (f : Dn (List PyData)) : Dn PyData := dBind f fun ds => dK (.list ds)
theorem dBind_some {α β : Type} {f : Dn α} {g : α → Dn β} {e : En} {r : β × En} (h : dBind f g e = some r) : ∃ x e1, f e = some (x, e1) ∧ g x e1 = some r := by
  unfold dBind at h
  split at h
  · rename_i x e1 he
    exact ⟨x, e1, he, h⟩
  · cases h
theorem dLift_some {α : Type} {o : Option α} {e : En} {x : α} {e1 : En} (h : dLift o e = some (x, e1)) : o = some x ∧ e1 = e := by
  unfold dLift at h
  split at h
  · cases h
    exact ⟨rfl, rfl⟩
  · cases h
theorem dK_some {α : Type} {x y : α} {e e1 : En} (h : dK x e = some (y, e1)) : x = y ∧ e1 = e := by
  cases h
  exact ⟨rfl, rfl⟩

section
variable {K : PySem.W.Frag} {ta tb te tc : TE} {t u : TT} {f g : Dn PyData} {c c2 : Dn Bool} {r : R2} {F : PyData → PyData → Option PyData}
theorem se_op (hr : ∀ B x y z, F x y = some z → RD K r x y B z) (ha : SE K ta f) (hb : SE K tb g) : SE K (tOp r ta tb) (dOp F f g) := fun W hW σ e B H a d e' h Q q => by
  obtain ⟨x, e1, h1, h⟩ := dBind_some h
  obtain ⟨y, e2, h2, h⟩ := dBind_some h
  obtain ⟨h3, rfl⟩ := dLift_some h
  refine ha W hW σ e B H a x e1 h1 _ fun v1 B1 H1 a1 g1 d1 => hb W hW σ e1 B1 H1 a1 y e' h2 _ fun v2 B2 H2 a2 g2 d2 => ?_
  refine hr B2 x y d h3 v1 v2 H2 a2.ex (dp_mono g2.go.hg d1) d2 Q fun v G H3 g3 hd => q v G H3 (a2.gr g3) ((g1.trans g2).trans (gx_gr g3)) hd
theorem se_un {r : V → Hp → VK → Prop} {F : PyData → Option PyData} (hr : ∀ B x z, F x = some z → RUD K r x B z) (ha : SE K ta f) : SE K (tUn r ta) (dUn F f) := fun W hW σ e B H a d e' h Q q => by
  obtain ⟨x, e1, h1, h⟩ := dBind_some h
  obtain ⟨h3, rfl⟩ := dLift_some h
  refine ha W hW σ e B H a x e' h1 _ fun v1 B1 H1 a1 g1 d1 => ?_
  refine hr B1 x d h3 v1 H1 a1.ex d1 Q fun v G H3 g3 hd => q v G H3 (a1.gr g3) (g1.trans (gx_gr g3)) hd
theorem se_c {v : V} {d : PyData} (h : ∀ B, Dp K B v d) : SE K (tC v) (dK d) := fun W hW σ e B H a d' e' h' Q q => by
  obtain ⟨rfl, rfl⟩ := dK_some h'
  exact q v B H a (.refl _ _ _ _) (h B)
theorem se_int {i : Int} : SE K (tC (.int i)) (dK (.int i)) := se_c fun _ => .int i
theorem se_bl {b : Bool} : SE K (tC (.bl b)) (dK (.bool b)) := se_c fun _ => .bl b
theorem se_str {x : Str} : SE K (tC (.str x)) (dK (.str x)) := se_c fun _ => .str x
theorem se_non : SE K (tC .non) (dK .none) := se_c fun _ => .non
theorem sa_nil : SA K tNil (dK []) := fun W hW σ e B H a d' e' h' Q q => by
  obtain ⟨rfl, rfl⟩ := dK_some h'
  exact q [] B H a (.refl _ _ _ _) .nil
theorem sa_cons {tr : TA} {k : Dn (List PyData)} (ha : SE K ta f) (hr : SA K tr k) : SA K (tCons ta tr) (dCons f k) := fun W hW σ e B H a d e' h Q q => by
  obtain ⟨x, e1, h1, h⟩ := dBind_some h
  obtain ⟨xs, e2, h2, h⟩ := dBind_some h
  obtain ⟨rfl, rfl⟩ := dK_some h
  refine ha W hW σ e B H a x e1 h1 _ fun v1 B1 H1 a1 g1 d1 => hr W hW σ e1 B1 H1 a1 xs e' h2 _ fun vs B2 H2 a2 g2 d2 => ?_
  exact q (v1 :: vs) B2 H2 a2 (g1.trans g2) (.cons (dp_mono g2.go.hg d1) d2)
theorem se_cb {r : List V → Hp → VK → Prop} {tr : TA} {k : Dn (List PyData)} {F : List PyData → Option PyData} (hr : ∀ B ds z, F ds = some z → RCD K r ds B z) (ha : SA K tr k) : SE K (tCB r tr) (dBind k fun ds => dLift (F ds)) := fun W hW σ e B H a d e' h Q q => by
  obtain ⟨x, e1, h1, h⟩ := dBind_some h
  obtain ⟨h3, rfl⟩ := dLift_some h
  refine ha W hW σ e B H a x e' h1 _ fun v1 B1 H1 a1 g1 d1 => ?_
  refine hr B1 x d h3 v1 H1 a1.ex d1 Q fun v G H3 g3 hd => q v G H3 (a1.gr g3) (g1.trans (gx_gr g3)) hd
theorem sl_cb {r : List V → Hp → VK → Prop} {tr : TA} {k : Dn (List PyData)} {F : List PyData → Option (List PyData)} (hr : ∀ B ds z, F ds = some z → RCDL K r ds B z) (ha : SA K tr k) : SL K (tCB r tr) (dBind k fun ds => dLift (F ds)) := fun W hW σ e B H a d e' h Q q => by
  obtain ⟨x, e1, h1, h⟩ := dBind_some h
  obtain ⟨h3, rfl⟩ := dLift_some h
  refine ha W hW σ e B H a x e' h1 _ fun v1 B1 H1 a1 g1 d1 => ?_
  refine hr B1 x d h3 v1 H1 a1.ex d1 Q fun p vs G H3 g0 h0 g3 hp hd => q p vs G H3 (a1.gr g3) (g1.trans (gx_gr g3)) (g1.go.dm p h0) hp g0 hd
/-- a new list becomes data -/
theorem At.fz {W : Wo} {σ : L2.St} {e : En} {B H : Hp} {p : Addr} {vs : List V} (a : At W σ e B H) (hp : H p = some (.lst vs)) (h0 : B p = none) (no : ¬ Ow σ e p) : At W σ e (upd B p (.lst vs)) H where
  ex := fun b o h => by
    by_cases c : b = p
    · subst c
      rw [upd_same] at h
      cases h
      exact hp
    · rw [upd_ne c] at h
      exact a.ex b o h
  nm := a.nm
  len := a.len
  dat := fun i x h => by
    obtain ⟨v, h1, h2⟩ := a.dat i x h
    exact ⟨v, h1, dp_mono (Ex.new h0) h2⟩
  own := fun i s xs h1 h2 => by
    obtain ⟨q, vs, g1, g2, g3, g4, g5⟩ := a.own i s xs h1 h2
    have qp : q ≠ p := fun z => by
      subst z
      exact no ⟨i, s, xs, h1, h2, g1⟩
    exact ⟨q, vs, g1, g2, by rw [upd_ne qp]; exact g3, g4, dpa_mono (Ex.new h0) g5⟩
  sep := a.sep
  pin := a.pin
theorem se_fz {k : Dn (List PyData)} (h : SL K te k) : SE K te (dFz k) := fun W hW σ e B H a d e' h' Q q => by
  obtain ⟨x, e1, h1, h2⟩ := dBind_some h'
  obtain ⟨rfl, rfl⟩ := dK_some h2
  refine h W hW σ e B H a x e' h1 _ fun p vs B1 H1 a1 g1 p0 hp pB hd => ?_
  have no : ¬ Ow σ e' p := fun z => (a.ow (g1.ow p z)).2.1 p0
  refine q _ _ _ (a1.fz hp pB no) ⟨⟨g1.go.hg.trans (Ex.new pB), g1.go.fr, g1.go.dm, fun b hn hb hh => ?_⟩, g1.ow⟩ (.lst (sq_of upd_same) (dpa_mono (Ex.new pB) hd))
  by_cases c : b = p
  · subst c
    exact absurd p0 hh
  · rw [upd_ne c]
    exact g1.go.sp b hn hb hh
end

section
variable {K : PySem.W.Frag} {ta tb te tc : TE} {t u : TT} {f g : Dn PyData} {c c2 : Dn Bool}
theorem getElem?_set_eq {α : Type} {l : List α} {i : Nat} {x y : α} (h : l[i]? = some x) : (l.set i y)[i]? = some y := by
  rw [List.getElem?_set_self (List.getElem?_eq_some_iff.mp h).1]
/-- a list of one's own becomes data where it stands -/
theorem At.fzAt {W : Wo} {σ : L2.St} {e : En} {B H : Hp} {i : Nat} {xs : List PyData} (a : At W σ e B H) (hi : e[i]? = some (.o xs)) : ∃ p vs, σ[i]? = some (some (.ref p)) ∧ H p = some (.lst vs) ∧ B p = none ∧ DpAll W.K B vs xs ∧
    At W σ (e.set i (.d (.list xs))) (upd B p (.lst vs)) H ∧ Gx σ e B H (e.set i (.d (.list xs))) (upd B p (.lst vs)) H := by
  obtain ⟨p, vs, g1, g2, g3, g4, g5⟩ := a.own i _ xs hi rfl
  have hs : ∀ (j : Nat) s, (e.set i (.d (.list xs)))[j]? = some s → (j = i ∧ s = .d (.list xs)) ∨ (j ≠ i ∧ e[j]? = some s) := fun j s h => by
    by_cases c : j = i
    · subst c
      rw [getElem?_set_eq hi] at h
      cases h
      exact .inl ⟨rfl, rfl⟩
    · rw [List.getElem?_set_ne (Ne.symm c)] at h
      exact .inr ⟨c, h⟩
  have oth : ∀ (j : Nat) s ys, (e.set i (.d (.list xs)))[j]? = some s → s.own = some ys → j ≠ i ∧ e[j]? = some s := fun j s ys h1 h2 => by
    rcases hs j s h1 with ⟨_, rfl⟩ | h
    · cases h2
    · exact h
  refine ⟨p, vs, g1, g4, g3, g5, ⟨fun b o h => ?_, a.nm, by rw [List.length_set]; exact a.len, fun j x h => ?_, fun j s ys h1 h2 => ?_, fun j k s t q ys zs h1 h2 h3 h4 h5 h6 => ?_, fun j b hb => ?_⟩, ⟨⟨Ex.new g3, fun _ _ _ h => h, fun _ h => h, fun b hn hb hh => ?_⟩, fun b hb => ?_⟩⟩
  · by_cases c : b = p
    · subst c
      rw [upd_same] at h
      cases h
      exact g4
    · rw [upd_ne c] at h
      exact a.ex b o h
  · rcases hs j _ h with ⟨rfl, e1⟩ | ⟨_, h⟩
    · cases e1
      exact ⟨_, g1, .lst (sq_of upd_same) (dpa_mono (Ex.new g3) g5)⟩
    · obtain ⟨v, k1, k2⟩ := a.dat j x h
      exact ⟨v, k1, dp_mono (Ex.new g3) k2⟩
  · obtain ⟨ne, h1⟩ := oth j s ys h1 h2
    obtain ⟨q, ws, k1, k2, k3, k4, k5⟩ := a.own j s ys h1 h2
    have qp : q ≠ p := fun z => by
      subst z
      exact ne (a.sep j i s _ q ys xs h1 h2 hi rfl k1 g1)
    exact ⟨q, ws, k1, k2, by rw [upd_ne qp]; exact k3, k4, dpa_mono (Ex.new g3) k5⟩
  · exact a.sep j k s t q ys zs (oth j s ys h1 h2).2 h2 (oth k t zs h3 h4).2 h4 h5 h6
  · obtain ⟨⟨ys, h1⟩, h2⟩ := a.pin j b hb
    have ne : j ≠ i := fun z => by
      subst z
      rw [h1] at hi
      cases hi
    exact ⟨⟨ys, by rw [List.getElem?_set_ne (Ne.symm ne)]; exact h1⟩, h2⟩
  · by_cases c : b = p
    · subst c
      exact absurd ⟨i, _, xs, hi, rfl, g1⟩ hn
    · rw [upd_ne c]
      exact hb
  · obtain ⟨j, s, ys, h1, h2, h3⟩ := hb
    exact ⟨j, s, ys, (oth j s ys h1 h2).2, h2, h3⟩
theorem se_var {i : Nat} : SE K (tVar i) (dVar i) := fun W hW σ e B H a d e' h Q q => by
  unfold dVar at h
  split at h
  · rename_i x hx
    cases h
    obtain ⟨v, h1, h2⟩ := a.dat i _ hx
    rw [hW] at h2
    exact ⟨v, h1, q v B H a (.refl _ _ _ _) h2⟩
  · rename_i xs hx
    cases h
    obtain ⟨p, vs, h1, h2, h3, h4, h5, h6⟩ := a.fzAt hx
    rw [hW] at h4
    exact ⟨_, h1, q _ _ H h5 h6 (.lst (sq_of upd_same) (dpa_mono (Ex.new h3) h4))⟩
  · cases h
theorem se_if (hc : ST K t c) (ha : SE K ta f) (hb : SE K tb g) : SE K (tIf t ta tb) (dIf c f g) := fun W hW σ e B H a d e' h Q q => by
  obtain ⟨b, e1, h1, h⟩ := dBind_some h
  refine hc W hW σ e B H a b e1 h1 _ fun B1 H1 a1 g1 => ?_
  by_cases z : b = true
  · rw [if_pos z] at h ⊢
    exact ha W hW σ e1 B1 H1 a1 d e' h Q fun v B2 H2 a2 g2 => q v B2 H2 a2 (g1.trans g2)
  · rw [if_neg z] at h ⊢
    exact hb W hW σ e1 B1 H1 a1 d e' h Q fun v B2 H2 a2 g2 => q v B2 H2 a2 (g1.trans g2)
theorem se_and (ha : SE K ta f) (hb : SE K tb g) : SE K (tAndV ta tb) (dAnd f g) := fun W hW σ e B H a d e' h Q q => by
  obtain ⟨x, e1, h1, h⟩ := dBind_some h
  refine ha W hW σ e B H a x e1 h1 _ fun v1 B1 H1 a1 g1 d1 => ?_
  split at h
  · obtain ⟨y, e2, h2, h⟩ := dBind_some h
    split at h
    · obtain ⟨rfl, rfl⟩ := dK_some h
      exact ⟨true, d1.bl_of, hb W hW σ e1 B1 H1 a1 _ e' h2 Q fun v B2 H2 a2 g2 => q v B2 H2 a2 (g1.trans g2)⟩
    · cases h
  · obtain ⟨rfl, rfl⟩ := dK_some h
    exact ⟨false, d1.bl_of, q _ B1 H1 a1 g1 (.bl false)⟩
  · cases h
theorem se_or (ha : SE K ta f) (hb : SE K tb g) : SE K (tOrV ta tb) (dOr f g) := fun W hW σ e B H a d e' h Q q => by
  obtain ⟨x, e1, h1, h⟩ := dBind_some h
  refine ha W hW σ e B H a x e1 h1 _ fun v1 B1 H1 a1 g1 d1 => ?_
  split at h
  · obtain ⟨y, e2, h2, h⟩ := dBind_some h
    split at h
    · obtain ⟨rfl, rfl⟩ := dK_some h
      exact ⟨false, d1.bl_of, hb W hW σ e1 B1 H1 a1 _ e' h2 Q fun v B2 H2 a2 g2 => q v B2 H2 a2 (g1.trans g2)⟩
    · cases h
  · obtain ⟨rfl, rfl⟩ := dK_some h
    exact ⟨true, d1.bl_of, q _ B1 H1 a1 g1 (.bl true)⟩
  · cases h
theorem se_not (ha : SE K ta f) : SE K (tNotV ta) (dNot f) := fun W hW σ e B H a d e' h Q q => by
  obtain ⟨x, e1, h1, h⟩ := dBind_some h
  refine ha W hW σ e B H a x e1 h1 _ fun v1 B1 H1 a1 g1 d1 => ?_
  split at h
  · rename_i b
    obtain ⟨rfl, rfl⟩ := dK_some h
    exact ⟨b, d1.bl_of, q _ B1 H1 a1 g1 (.bl _)⟩
  · cases h
theorem st_test (ha : SE K ta f) : ST K (tTest ta) (dTest f) := fun W hW σ e B H a d e' h Q q => by
  obtain ⟨x, e1, h1, h⟩ := dBind_some h
  refine ha W hW σ e B H a x e1 h1 _ fun v1 B1 H1 a1 g1 d1 => ?_
  split at h
  · rename_i b
    obtain ⟨rfl, rfl⟩ := dK_some h
    exact ⟨b, d1.bl_of, q B1 H1 a1 g1⟩
  · cases h
theorem st_val (ha : SE K ta f) : ST K (tB ta) (dTest f) := st_test ha
theorem st_and (ha : ST K t c) (hb : ST K u c2) : ST K (tAnd t u) (dAndT c c2) := fun W hW σ e B H a d e' h Q q => by
  obtain ⟨b, e1, h1, h⟩ := dBind_some h
  refine ha W hW σ e B H a b e1 h1 _ fun B1 H1 a1 g1 => ?_
  cases b with
  | true => exact hb W hW σ e1 B1 H1 a1 d e' h Q fun B2 H2 a2 g2 => q B2 H2 a2 (g1.trans g2)
  | false =>
    obtain ⟨rfl, rfl⟩ := dK_some h
    exact q B1 H1 a1 g1
theorem st_or (ha : ST K t c) (hb : ST K u c2) : ST K (tOr t u) (dOrT c c2) := fun W hW σ e B H a d e' h Q q => by
  obtain ⟨b, e1, h1, h⟩ := dBind_some h
  refine ha W hW σ e B H a b e1 h1 _ fun B1 H1 a1 g1 => ?_
  cases b with
  | false => exact hb W hW σ e1 B1 H1 a1 d e' h Q fun B2 H2 a2 g2 => q B2 H2 a2 (g1.trans g2)
  | true =>
    obtain ⟨rfl, rfl⟩ := dK_some h
    exact q B1 H1 a1 g1
theorem st_not (ha : ST K t c) : ST K (tNot t) (dNotT c) := fun W hW σ e B H a d e' h Q q => by
  obtain ⟨b, e1, h1, h⟩ := dBind_some h
  obtain ⟨rfl, rfl⟩ := dK_some h
  exact ha W hW σ e B H a b e' h1 _ fun B1 H1 a1 g1 => q B1 H1 a1 g1
theorem st_yes : ST K tYes (dK true) := fun W hW σ e B H a d e' h Q q => by
  obtain ⟨rfl, rfl⟩ := dK_some h
  exact q B H a (.refl _ _ _ _)
theorem se_tup {tr : TA} {k : Dn (List PyData)} (h : SA K tr k) : SE K (tTup tr) (dTup k) := fun W hW σ e B H a d e' h' Q q => by
  obtain ⟨ds, e1, h1, h2⟩ := dBind_some h'
  split at h2
  · rename_i hz
    obtain ⟨rfl, rfl⟩ := dK_some h2
    refine h W hW σ e B H a ds e' h1 _ fun vs B1 H1 a1 g1 d1 => ⟨sz_of (by rw [DpAll.length d1]; exact of_decide_eq_true hz), fun p hp => ?_⟩
    have g : Gr B1 H1 (upd B1 p (.tup vs)) (upd H1 p (.tup vs)) := Gr.new a1.ex hp
    exact q _ _ _ (a1.gr g) (g1.trans (gx_gr g)) (.tup (st_of upd_same) (dpa_mono g.hg d1))
  · cases h2
theorem sl_lst {tr : TA} {k : Dn (List PyData)} (h : SA K tr k) : SL K (tLst tr) (dLst k) := fun W hW σ e B H a d e' h' Q q => by
  obtain ⟨ds, e1, h1, h2⟩ := dBind_some h'
  split at h2
  · rename_i hz
    obtain ⟨rfl, rfl⟩ := dK_some h2
    refine h W hW σ e B H a ds e' h1 _ fun vs B1 H1 a1 g1 d1 => ⟨sz_of (by rw [DpAll.length d1]; exact of_decide_eq_true hz), fun p hp => ?_⟩
    have g : Gr B1 H1 B1 (upd H1 p (.lst vs)) := Gr.mut a1.ex hp
    exact q p vs _ _ (a1.gr g) (g1.trans (gx_gr g)) (g1.go.dm p hp) upd_same (fresh_back a1.ex hp) d1
  · cases h2
end
end Fd
end

section
set_option Elab.async false
set_option linter.all false
set_option maxRecDepth 100000
set_option maxHeartbeats 1000000
/-! Walks by meaning 2: statements and loops. -/
namespace Fd
open PySem PySem.Spec PyProof.Rows L2 Evl Tb

/-- how a statement ends -/
inductive Rs where
  | nx (e : En)
  | bk (e : En)
  | ct (e : En)
  | rt (d : PyData) (e : En)
  | rl (xs : List PyData) (e : En)
abbrev Ds := En → Option Rs
def Po (W : Wo) (B H : Hp) (D : Ends) : Rs → Prop
  | .nx e' => ∀ σ' B' H', At W σ' e' B' H' → Go W.M B H B' H' → D.nx σ' H'
  | .bk e' => ∀ σ' B' H', At W σ' e' B' H' → Go W.M B H B' H' → D.bk σ' H'
  | .ct e' => ∀ σ' B' H', At W σ' e' B' H' → Go W.M B H B' H' → D.ct σ' H'
  | .rt d e' => ∀ v σ' B' H', At W σ' e' B' H' → Go W.M B H B' H' → Dp W.K B' v d → D.rt v H'
  | .rl xs e' => ∀ p vs σ' B' H', At W σ' e' B' H' → Go W.M B H B' H' → W.M p → (∀ i, W.pn i ≠ some p) → H' p = some (.lst vs) → B' p = none → DpAll W.K B' vs xs → D.rt (.ref p) H'
def SS (K : PySem.W.Frag) (t : TS) (f : Ds) : Prop := ∀ (W : Wo), W.K = K → ∀ (σ : L2.St) (e : En) (B H : Hp), At W σ e B H → ∀ r, f e = some r → ∀ D : Ends, Po W B H D r → t D σ H
theorem Po.mono {W : Wo} {B H B1 H1 : Hp} {D : Ends} {r : Rs} (g : Go W.M B H B1 H1) (h : Po W B H D r) : Po W B1 H1 D r := by
  cases r with
  | nx e => exact fun σ' B' H' a g' => h σ' B' H' a (g.trans g')
  | bk e => exact fun σ' B' H' a g' => h σ' B' H' a (g.trans g')
  | ct e => exact fun σ' B' H' a g' => h σ' B' H' a (g.trans g')
  | rt d e => exact fun v σ' B' H' a g' => h v σ' B' H' a (g.trans g')
  | rl xs e => exact fun p vs σ' B' H' a g' => h p vs σ' B' H' a (g.trans g')

/-! ### slots that are set -/
section
variable {W : Wo} {σ : L2.St} {e : En} {B H : Hp}
theorem set_cases {e : En} {i j : Nat} {s u : Sl} (h : (e.set i u)[j]? = some s) : (j = i ∧ s = u ∧ i < e.length) ∨ (j ≠ i ∧ e[j]? = some s) := by
  by_cases c : j = i
  · subst c
    have hl : j < e.length := by
      have := (List.getElem?_eq_some_iff.mp h).1
      rw [List.length_set] at this
      exact this
    rw [List.getElem?_set_self hl] at h
    cases h
    exact .inl ⟨rfl, rfl, hl⟩
  · rw [List.getElem?_set_ne (Ne.symm c)] at h
    exact .inr ⟨c, h⟩
theorem At.lt (a : At W σ e B H) {i : Nat} (h : i < e.length) : i < σ.length := by rw [a.len]; exact h
theorem At.setD (a : At W σ e B H) {i : Nat} {v : V} {x : PyData} (hp : W.pn i = none) (hv : Dp W.K B v x) : At W (σ.set i (some v)) (e.set i (.d x)) B H where
  ex := a.ex
  nm := a.nm
  len := by rw [List.length_set, List.length_set]; exact a.len
  dat := fun j y h => by
    rcases set_cases h with ⟨rfl, e1, hl⟩ | ⟨c, h⟩
    · cases e1
      exact ⟨v, List.getElem?_set_self (a.lt hl), hv⟩
    · rw [List.getElem?_set_ne (Ne.symm c)]
      exact a.dat j y h
  own := fun j s xs h1 h2 => by
    rcases set_cases h1 with ⟨rfl, rfl, hl⟩ | ⟨c, h⟩
    · cases h2
    · rw [List.getElem?_set_ne (Ne.symm c)]
      exact a.own j s xs h h2
  sep := fun j k s t p xs ys h1 h2 h3 h4 h5 h6 => by
    rcases set_cases h1 with ⟨rfl, rfl, hl⟩ | ⟨c, h1⟩
    · cases h2
    · rcases set_cases h3 with ⟨rfl, rfl, hl⟩ | ⟨c2, h3⟩
      · cases h4
      · rw [List.getElem?_set_ne (Ne.symm c)] at h5
        rw [List.getElem?_set_ne (Ne.symm c2)] at h6
        exact a.sep j k s t p xs ys h1 h2 h3 h4 h5 h6
  pin := fun j b hb => by
    have ne : i ≠ j := fun z => by
      subst z
      rw [hp] at hb
      cases hb
    rw [List.getElem?_set_ne ne, List.getElem?_set_ne ne]
    exact a.pin j b hb
theorem ow_setD {i : Nat} {v : V} {x : PyData} {b : Addr} (h : Ow (σ.set i (some v)) (e.set i (.d x)) b) : Ow σ e b := by
  obtain ⟨j, s, xs, h1, h2, h3⟩ := h
  rcases set_cases h1 with ⟨rfl, rfl, hl⟩ | ⟨c, h⟩
  · cases h2
  · rw [List.getElem?_set_ne (Ne.symm c)] at h3
    exact ⟨j, s, xs, h, h2, h3⟩
theorem At.setO (a : At W σ e B H) {i : Nat} {p : Addr} {vs : List V} {xs : List PyData} (hp : W.pn i = none) (no : ¬ Ow σ e p) (hM : W.M p) (h0 : B p = none) (hl : H p = some (.lst vs)) (hv : DpAll W.K B vs xs) : At W (σ.set i (some (.ref p))) (e.set i (.o xs)) B H where
  ex := a.ex
  nm := a.nm
  len := by rw [List.length_set, List.length_set]; exact a.len
  dat := fun j y h => by
    rcases set_cases h with ⟨rfl, e1, hl⟩ | ⟨c, h⟩
    · cases e1
    · rw [List.getElem?_set_ne (Ne.symm c)]
      exact a.dat j y h
  own := fun j s ys h1 h2 => by
    rcases set_cases h1 with ⟨rfl, rfl, hlt⟩ | ⟨c, h⟩
    · cases h2
      exact ⟨p, vs, List.getElem?_set_self (a.lt hlt), hM, h0, hl, hv⟩
    · rw [List.getElem?_set_ne (Ne.symm c)]
      exact a.own j s ys h h2
  sep := fun j k s t q xs ys h1 h2 h3 h4 h5 h6 => by
    rcases set_cases h1 with ⟨e1, e2, hl⟩ | ⟨c, h1'⟩
    · rcases set_cases h3 with ⟨e3, e4, hl2⟩ | ⟨c2, h3'⟩
      · rw [e1, e3]
      · subst e1
        rw [List.getElem?_set_self (a.lt hl)] at h5
        rw [List.getElem?_set_ne (Ne.symm c2)] at h6
        cases h5
        exact absurd ⟨k, t, ys, h3', h4, h6⟩ no
    · rcases set_cases h3 with ⟨e3, e4, hl2⟩ | ⟨c2, h3'⟩
      · rw [e3, List.getElem?_set_self (a.lt hl2)] at h6
        rw [List.getElem?_set_ne (Ne.symm c)] at h5
        cases h6
        exact absurd ⟨j, s, xs, h1', h2, h5⟩ no
      · rw [List.getElem?_set_ne (Ne.symm c)] at h5
        rw [List.getElem?_set_ne (Ne.symm c2)] at h6
        exact a.sep j k s t q xs ys h1' h2 h3' h4 h5 h6
  pin := fun j b hb => by
    have ne : i ≠ j := fun z => by
      subst z
      rw [hp] at hb
      cases hb
    rw [List.getElem?_set_ne ne, List.getElem?_set_ne ne]
    exact a.pin j b hb
/-- the list at a slot gets other content -/
theorem At.put (a : At W σ e B H) {i : Nat} {s s' : Sl} {xs ys : List PyData} {p : Addr} {vs : List V} (hi : e[i]? = some s) (hs : s.own = some xs) (hs' : s'.own = some ys) (hP : s.isP = s'.isP) (hp : σ[i]? = some (some (.ref p))) (hv : DpAll W.K B vs ys) :
    At W σ (e.set i s') B (upd H p (.lst vs)) ∧ Go W.M B H B (upd H p (.lst vs)) := by
  obtain ⟨q, us, g1, g2, g3, g4, g5⟩ := a.own i s xs hi hs
  rw [hp] at g1
  cases g1
  refine ⟨⟨Ex.mut a.ex g3, fun b hb => ?_, by rw [List.length_set]; exact a.len, fun j y h => ?_, fun j t zs h1 h2 => ?_, fun j k t u q zs ws h1 h2 h3 h4 h5 h6 => ?_, fun j b hb => ?_⟩, ⟨Ex.refl B, fun b o hM h => ?_, fun b h => ?_, fun b _ h _ => h⟩⟩
  · by_cases c : b = p
    · subst c
      rw [upd_same] at hb
      cases hb
    · rw [upd_ne c] at hb
      exact a.nm b hb
  · rcases set_cases h with ⟨rfl, e1, hl⟩ | ⟨c, h⟩
    · subst e1
      cases hs'
    · exact a.dat j y h
  · rcases set_cases h1 with ⟨rfl, rfl, hlt⟩ | ⟨c, h⟩
    · rw [hs'] at h2
      cases h2
      exact ⟨p, vs, hp, g2, g3, upd_same, hv⟩
    · obtain ⟨q, us', k1, k2, k3, k4, k5⟩ := a.own j t zs h h2
      have qp : q ≠ p := fun z => by
        subst z
        exact c (a.sep j i t s q zs xs h h2 hi hs k1 hp)
      exact ⟨q, us', k1, k2, k3, by rw [upd_ne qp]; exact k4, k5⟩
  · have old : ∀ (j : Nat) (t : Sl) zs, (e.set i s')[j]? = some t → t.own = some zs → ∃ t' zs', e[j]? = some t' ∧ t'.own = some zs' := fun j t zs h1 h2 => by
      rcases set_cases h1 with ⟨rfl, rfl, hlt⟩ | ⟨c, h⟩
      · exact ⟨s, xs, hi, hs⟩
      · exact ⟨t, zs, h, h2⟩
    obtain ⟨t1, z1, m1, m2⟩ := old j t zs h1 h2
    obtain ⟨t2, z2, m3, m4⟩ := old k u ws h3 h4
    exact a.sep j k t1 t2 q z1 z2 m1 m2 m3 m4 h5 h6
  · obtain ⟨⟨zs, k1⟩, k2⟩ := a.pin j b hb
    refine ⟨?_, k2⟩
    by_cases c : j = i
    · subst c
      rw [k1] at hi
      cases hi
      cases s' with
      | p ws => exact ⟨ws, getElem?_set_eq k1⟩
      | no => cases hP
      | d x => cases hP
      | o x => cases hP
    · exact ⟨zs, by rw [List.getElem?_set_ne (Ne.symm c)]; exact k1⟩
  · have c : b ≠ p := fun z => hM (z ▸ g2)
    rw [upd_ne c]
    exact h
  · by_cases c : b = p
    · subst c
      rw [upd_same] at h
      cases h
    · rw [upd_ne c] at h
      exact h
end

/-! ### targets -/
def SG (K : PySem.W.Frag) (g : TG) (sl : List Nat) (f : PyData → En → Option En) : Prop := ∀ (W : Wo), W.K = K → ∀ (σ : L2.St) (e : En) (B H : Hp) (v : V) (d : PyData), At W σ e B H → Dp K B v d → ∀ e', f d e = some e' →
  ∀ Q : L2.St → Hp → Prop, (∀ σ', At W σ' e' B H → (∀ b, Ow σ' e' b → Ow σ e b) → (∀ i, i ∉ sl → σ'[i]? = σ[i]?) → σ'.length = σ.length → Q σ' H) → g v σ H Q
def SGs (K : PySem.W.Frag) (g : TGs) (sl : List Nat) (f : List PyData → En → Option En) : Prop := ∀ (W : Wo), W.K = K → ∀ (σ : L2.St) (e : En) (B H : Hp) (vs : List V) (ds : List PyData), At W σ e B H → DpAll K B vs ds → ∀ e', f ds e = some e' →
  ∀ Q : L2.St → Hp → Prop, (∀ σ', At W σ' e' B H → (∀ b, Ow σ' e' b → Ow σ e b) → (∀ i, i ∉ sl → σ'[i]? = σ[i]?) → σ'.length = σ.length → Q σ' H) → g vs σ H Q
def canSet (e : En) (i : Nat) : Bool := match e[i]? with
  | some (.p _) => false
  | none => false
  | _ => true
def setD (i : Nat) (d : PyData) (e : En) : Option En := if canSet e i = true then some (e.set i (.d d)) else none
def setO (i : Nat) (xs : List PyData) (e : En) : Option En := if canSet e i = true then some (e.set i (.o xs)) else none
theorem can_pn {W : Wo} {σ : L2.St} {e : En} {B H : Hp} {i : Nat} (a : At W σ e B H) (h : canSet e i = true) : W.pn i = none := by
  cases hp : W.pn i with
  | none => rfl
  | some b =>
    obtain ⟨⟨xs, k⟩, _⟩ := a.pin i b hp
    unfold canSet at h
    rw [k] at h
    cases h
def dName (i : Nat) : PyData → En → Option En := setD i
def dNil : List PyData → En → Option En := fun ds e => match ds with
  | [] => some e
  | _ => none
def dGs (f : PyData → En → Option En) (g : List PyData → En → Option En) : List PyData → En → Option En := fun ds e => match ds with
  | d :: ds => match f d e with
    | some e1 => g ds e1
    | none => none
  | [] => none
def itemsOf : PyData → Option (List PyData)
  | .list xs => some xs
  | .tuple xs => some xs
  | _ => none
def dRow (n : Nat) (g : List PyData → En → Option En) : PyData → En → Option En := fun d e => match itemsOf d with
  | some xs => if xs.length = n then g xs e else none
  | none => none
theorem items_rows {d : PyData} {xs : List PyData} (h : itemsOf d = some xs) : ∃ b, d = rows b xs := by
  cases d with
  | list ys =>
    cases h
    exact ⟨true, rfl⟩
  | tuple ys =>
    cases h
    exact ⟨false, rfl⟩
  | none => cases h
  | bool b => cases h
  | int i => cases h
  | str x => cases h
  | dict x => cases h
section
variable {K : PySem.W.Frag}
theorem sg_name {i : Nat} : SG K (gName i) [i] (dName i) := fun W hW σ e B H v d a hd e' h Q q => by
  unfold dName setD at h
  split at h
  · rename_i c
    cases h
    refine q _ (a.setD (can_pn a c) (hW ▸ hd)) (fun b => ow_setD) (fun j hj => ?_) (List.length_set ..)
    have ne : i ≠ j := fun z => hj (by rw [z]; exact List.mem_singleton.mpr rfl)
    rw [List.getElem?_set_ne ne]
  · cases h
theorem sgs_nil : SGs K gNil [] dNil := fun W hW σ e B H vs ds a hd e' h Q q => by
  cases hd with
  | nil =>
    cases h
    exact ⟨rfl, q σ a (fun _ h => h) (fun _ _ => rfl) rfl⟩
  | cons => cases h
theorem sgs_cons {g : TG} {gs : TGs} {sl sls : List Nat} {f : PyData → En → Option En} {fs : List PyData → En → Option En} (h1 : SG K g sl f) (h2 : SGs K gs sls fs) : SGs K (gCons g gs) (sl ++ sls) (dGs f fs) := fun W hW σ e B H vs ds a hd e' h Q q => by
  cases hd with
  | nil => cases h
  | cons hv ha =>
    unfold dGs at h
    simp only at h
    split at h
    · rename_i e1 he1
      refine ⟨_, _, rfl, h1 W hW σ e B H _ _ a hv e1 he1 _ fun σ1 a1 o1 w1 l1 => h2 W hW σ1 e1 B H _ _ a1 ha e' h _ fun σ2 a2 o2 w2 l2 => q σ2 a2 (fun b hb => o1 b (o2 b hb)) (fun i hi => ?_) (l2.trans l1)⟩
      rw [w2 i fun z => hi (List.mem_append_right _ z), w1 i fun z => hi (List.mem_append_left _ z)]
    · cases h
theorem sg_row {n : Nat} {gs : TGs} {sl : List Nat} {fs : List PyData → En → Option En} (h1 : SGs K gs sl fs) : SG K (gRow K n gs) sl (dRow n fs) := fun W hW σ e B H v d a hd e' h Q q => by
  unfold dRow at h
  split at h
  · rename_i xs hx
    split at h
    · rename_i hn
      obtain ⟨b, rfl⟩ := items_rows hx
      obtain ⟨p, us, rfl, hr, ha⟩ := row_of hd
      exact ⟨p, us, rfl, row_mono a.ex hr, by rw [DpAll.length ha]; exact hn, h1 W hW σ e B H _ _ a ha e' h Q q⟩
    · cases h
  · cases h

/-! ### statements -/
def sAsg (f : Dn PyData) (g : PyData → En → Option En) : Ds := fun e => match f e with
  | some (d, e1) => (g d e1).map .nx
  | none => none
def sAsgO (f : Dn (List PyData)) (i : Nat) : Ds := fun e => match f e with
  | some (xs, e1) => (setO i xs e1).map .nx
  | none => none
def sDrop (f : Dn PyData) : Ds := fun e => (f e).map fun r => .nx r.2
def sSeq (f g : Ds) : Ds := fun e => match f e with
  | some (.nx e1) => g e1
  | r => r
def sIf (c : Dn Bool) (f g : Ds) : Ds := fun e => match c e with
  | some (b, e1) => if b = true then f e1 else g e1
  | none => none
def sRet (f : Dn PyData) : Ds := fun e => (f e).map fun r => .rt r.1 r.2
def sRetL (f : Dn (List PyData)) : Ds := fun e => (f e).map fun r => .rl r.1 r.2
def sNever : Ds := fun _ => none
def sSets : List Nat → List PyData → En → Option En
  | [], [], e => some e
  | i :: is, d :: ds, e => match setD i d e with
    | some e1 => sSets is ds e1
    | none => none
  | _, _, _ => none
def sPar (f : Dn (List PyData)) (is : List Nat) : Ds := fun e => match f e with
  | some (ds, e1) => (sSets is ds e1).map .nx
  | none => none
variable {te : TE} {ta : TA} {t u : TS} {tc : TT} {f : Dn PyData} {c : Dn Bool} {F G : Ds}
theorem ss_asg {g : TG} {sl : List Nat} {gd : PyData → En → Option En} (h : SE K te f) (hg : SG K g sl gd) : SS K (tAsg te g) (sAsg f gd) := fun W hW σ e B H a r hr D q => by
  unfold sAsg at hr
  split at hr
  · rename_i d e1 h1
    obtain ⟨e2, h2, rfl⟩ := Option.map_eq_some_iff.mp hr
    refine h W hW σ e B H a d e1 h1 _ fun v B1 H1 a1 g1 d1 => hg W hW σ e1 B1 H1 v d a1 d1 e2 h2 _ fun σ2 a2 o2 _ _ => q σ2 B1 H1 a2 (a.goM g1)
  · cases hr
theorem ss_asgO {i : Nat} {fl : Dn (List PyData)} (h : SL K te fl) : SS K (tAsg te (gName i)) (sAsgO fl i) := fun W hW σ e B H a r hr D q => by
  unfold sAsgO at hr
  split at hr
  · rename_i xs e1 h1
    obtain ⟨e2, h2, rfl⟩ := Option.map_eq_some_iff.mp hr
    unfold setO at h2
    split at h2
    · rename_i hc
      cases h2
      refine h W hW σ e B H a xs e1 h1 _ fun p vs B1 H1 a1 g1 p0 hp pB hd => q _ B1 H1 (a1.setO (can_pn a1 hc) (fun z => (a.ow (g1.ow p z)).2.1 p0) (a.nm p p0) pB hp (hW ▸ hd)) (a.goM g1)
    · cases h2
  · cases hr
theorem ss_drop (h : SE K te f) : SS K (tDrop te) (sDrop f) := fun W hW σ e B H a r hr D q => by
  obtain ⟨⟨d, e1⟩, h1, rfl⟩ := Option.map_eq_some_iff.mp hr
  exact h W hW σ e B H a d e1 h1 _ fun v B1 H1 a1 g1 d1 => q σ B1 H1 a1 (a.goM g1)
theorem ss_seq (h1 : SS K t F) (h2 : SS K u G) : SS K (tSeq t u) (sSeq F G) := fun W hW σ e B H a r hr D q => by
  unfold sSeq at hr
  split at hr
  · rename_i e1 he
    refine h1 W hW σ e B H a _ he _ fun σ' B' H' a' g' => h2 W hW σ' e1 B' H' a' r hr D (q.mono g')
  · rename_i r' hne
    refine h1 W hW σ e B H a r hr _ ?_
    cases r with
    | nx e1 => exact absurd hr (hne e1)
    | bk e1 => exact q
    | ct e1 => exact q
    | rt d e1 => exact q
    | rl xs e1 => exact q
theorem ss_if (hc : ST K tc c) (h1 : SS K t F) (h2 : SS K u G) : SS K (tIfS tc t u) (sIf c F G) := fun W hW σ e B H a r hr D q => by
  unfold sIf at hr
  split at hr
  · rename_i b e1 he
    refine hc W hW σ e B H a b e1 he _ fun B1 H1 a1 g1 => ?_
    have q1 := q.mono (a.goM g1)
    by_cases z : b = true
    · rw [if_pos z] at hr ⊢
      exact h1 W hW σ e1 B1 H1 a1 r hr D q1
    · rw [if_neg z] at hr ⊢
      exact h2 W hW σ e1 B1 H1 a1 r hr D q1
  · cases hr
theorem ss_ret (h : SE K te f) : SS K (tRet te) (sRet f) := fun W hW σ e B H a r hr D q => by
  obtain ⟨⟨d, e1⟩, h1, rfl⟩ := Option.map_eq_some_iff.mp hr
  exact h W hW σ e B H a d e1 h1 _ fun v B1 H1 a1 g1 d1 => q v σ B1 H1 a1 (a.goM g1) (hW ▸ d1)
theorem ss_retN : SS K tRetN (fun e => some (.rt .none e)) := fun W hW σ e B H a r hr D q => by
  cases hr
  exact q .non σ B H a (.refl _ _ _) .non
theorem ss_retL {fl : Dn (List PyData)} (h : SL K te fl) : SS K (tRet te) (sRetL fl) := fun W hW σ e B H a r hr D q => by
  obtain ⟨⟨xs, e1⟩, h1, rfl⟩ := Option.map_eq_some_iff.mp hr
  refine h W hW σ e B H a xs e1 h1 _ fun p vs B1 H1 a1 g1 p0 hp pB hd => q p vs σ B1 H1 a1 (a.goM g1) (a.nm p p0) (fun i z => ?_) hp pB (hW ▸ hd)
  obtain ⟨⟨ys, k1⟩, k2⟩ := a.pin i p z
  obtain ⟨p', us, g1', _, _, g4, _⟩ := a.own i _ ys k1 rfl
  rw [k2] at g1'
  cases g1'
  rw [p0] at g4
  cases g4
theorem ss_next : SS K tNext (fun e => some (.nx e)) := fun W hW σ e B H a r hr D q => by
  cases hr
  exact q σ B H a (.refl _ _ _)
theorem ss_break : SS K tBreak (fun e => some (.bk e)) := fun W hW σ e B H a r hr D q => by
  cases hr
  exact q σ B H a (.refl _ _ _)
theorem ss_cont : SS K tCont (fun e => some (.ct e)) := fun W hW σ e B H a r hr D q => by
  cases hr
  exact q σ B H a (.refl _ _ _)
theorem ss_never : SS K tNever sNever := fun W hW σ e B H a r hr D q => by cases hr
/-- own name returned -/
def sRetO (i : Nat) : Ds := fun e => match e[i]? with
  | some (.o xs) => some (.rl xs e)
  | _ => none
theorem ss_retO {i : Nat} : SS K (tRet (tVar i)) (sRetO i) := fun W hW σ e B H a r hr D q => by
  unfold sRetO at hr
  split at hr
  · rename_i xs hx
    cases hr
    obtain ⟨p, vs, g1, g2, g3, g4, g5⟩ := a.own i _ xs hx rfl
    refine ⟨_, g1, q p vs σ B H a (.refl _ _ _) g2 (fun j z => ?_) g4 g3 g5⟩
    obtain ⟨⟨ys, k1⟩, k2⟩ := a.pin j p z
    have ji := a.sep j i _ _ p ys xs k1 rfl hx rfl k2 g1
    subst ji
    rw [k1] at hx
    cases hx
  · cases hr
theorem sets_ok {W : Wo} : ∀ (is : List Nat) (vs : List V) (ds : List PyData) (σ : L2.St) (e e' : En) (B H : Hp), At W σ e B H → DpAll W.K B vs ds → sSets is ds e = some e' → ∃ σ', σ' = (is.zip vs).foldl (fun s p => s.set p.1 (some p.2)) σ ∧ At W σ' e' B H
  | [], [], [], σ, e, e', B, H, a, _, h => by
    cases h
    exact ⟨σ, rfl, a⟩
  | i :: is, v :: vs, d :: ds, σ, e, e', B, H, a, hd, h => by
    unfold sSets at h
    split at h
    · rename_i e1 h1
      unfold setD at h1
      split at h1
      · rename_i c
        cases h1
        cases hd with
        | cons hv ha =>
          obtain ⟨σ', h2, h3⟩ := sets_ok is vs ds _ _ e' B H (a.setD (can_pn a c) hv) ha h
          exact ⟨σ', h2, h3⟩
      · cases h1
    · cases h
  | [], _, _ :: _, σ, e, e', B, H, a, hd, h => by cases h
  | _ :: _, _, [], σ, e, e', B, H, a, hd, h => by cases h
  | [], _ :: _, [], σ, e, e', B, H, a, hd, h => by cases hd
  | _ :: _, [], _ :: _, σ, e, e', B, H, a, hd, h => by cases hd
theorem ss_par {i j : Nat} {fl : Dn (List PyData)} (h : SA K ta fl) : SS K (tPar i j ta) (sPar fl [i, j]) := fun W hW σ e B H a r hr D q => by
  unfold sPar at hr
  split at hr
  · rename_i ds e1 h1
    obtain ⟨e2, h2, rfl⟩ := Option.map_eq_some_iff.mp hr
    refine h W hW σ e B H a ds e1 h1 _ fun vs B1 H1 a1 g1 d1 => ?_
    obtain ⟨_, rfl, k2⟩ := sets_ok [i, j] vs ds σ e1 e2 B1 H1 a1 (hW ▸ d1) h2
    match vs, ds, d1, h2 with
    | [v, w], [d1', d2'], _, _ => exact ⟨v, w, rfl, q _ B1 H1 k2 (a.goM g1)⟩
    | [], [], _, h2 => cases h2
    | [v], [d], _, h2 =>
      unfold sSets at h2
      split at h2 <;> cases h2
    | _ :: _ :: _ :: _, _ :: _ :: _ :: _, _, h2 =>
      unfold sSets at h2
      split at h2
      · unfold sSets at h2
        split at h2 <;> cases h2
      · cases h2
  · cases hr
theorem ss_par3 {i j l : Nat} {fl : Dn (List PyData)} (h : SA K ta fl) : SS K (tPar3 i j l ta) (sPar fl [i, j, l]) := fun W hW σ e B H a r hr D q => by
  unfold sPar at hr
  split at hr
  · rename_i ds e1 h1
    obtain ⟨e2, h2, rfl⟩ := Option.map_eq_some_iff.mp hr
    refine h W hW σ e B H a ds e1 h1 _ fun vs B1 H1 a1 g1 d1 => ?_
    obtain ⟨_, rfl, k2⟩ := sets_ok [i, j, l] vs ds σ e1 e2 B1 H1 a1 (hW ▸ d1) h2
    have hl : vs.length = 3 := by
      rw [DpAll.length d1]
      clear k2 d1 h1
      match ds, h2 with
      | [_, _, _], _ => rfl
      | [], h2 => cases h2
      | [_], h2 =>
        unfold sSets at h2
        split at h2 <;> cases h2
      | [_, _], h2 =>
        unfold sSets at h2
        split at h2
        · unfold sSets at h2
          split at h2 <;> cases h2
        · cases h2
      | _ :: _ :: _ :: _ :: _, h2 =>
        unfold sSets at h2
        split at h2
        · unfold sSets at h2
          split at h2
          · unfold sSets at h2
            split at h2 <;> cases h2
          · cases h2
        · cases h2
    match vs, hl with
    | [v, w, z], _ => exact ⟨v, w, z, rfl, q _ B1 H1 k2 (a.goM g1)⟩
  · cases hr
end
end Fd
end

section
set_option Elab.async false
set_option linter.all false
set_option maxRecDepth 100000
set_option maxHeartbeats 1000000
/-! Walks by meaning 3: what is walked, loops, comprehensions, defs and calls. -/
namespace Fd
open PySem PySem.Spec PyProof.Rows L2 Evl Tb

/-! ### what is walked -/
structure Wk (K : PySem.W.Frag) (J : It) (B0 : Hp) (ds : List PyData) : Prop where
  go : ∀ (i : Nat) B1 H1, Ex B0 B1 → Ex B1 H1 → i < ds.length → J.go i H1
  st : ∀ B1 H1, Ex B0 B1 → Ex B1 H1 → J.stop ds.length H1
  yl : ∀ (i : Nat) d B1 H1 x H2, Ex B0 B1 → Ex B1 H1 → ds[i]? = some d → J.yld i H1 x H2 → ∃ B2, Gr B1 H1 B2 H2 ∧ Dp K B2 x d
def SI (K : PySem.W.Frag) (wi : TI) (f : Dn (List PyData)) : Prop := ∀ (W : Wo), W.K = K → ∀ (σ : L2.St) (e : En) (B H : Hp), At W σ e B H → ∀ ds e', f e = some (ds, e') →
  ∀ R : It → Hp → Prop, (∀ J B1 H1, At W σ e' B1 H1 → Gx σ e B H e' B1 H1 → Wk K J B1 ds → R J H1) → wi σ H R
theorem wk_of {K : PySem.W.Frag} {J : It} {n : Nat} {G : Hp → Prop} {Y : Nat → Hp → V → Hp → Prop} {B0 : Hp} {ds : List PyData} (w : Walk J n G Y) (hn : n = ds.length) (hG : ∀ H1, Ex B0 H1 → G H1)
    (hY : ∀ (i : Nat) d B1 H1 x H2, Ex B0 B1 → Ex B1 H1 → ds[i]? = some d → Y i H1 x H2 → ∃ B2, Gr B1 H1 B2 H2 ∧ Dp K B2 x d) : Wk K J B0 ds := by
  subst hn
  refine ⟨fun i B1 H1 x y hi => w.goes i H1 hi (hG H1 (x.trans y)), fun B1 H1 x y => w.stops H1 (hG H1 (x.trans y)), fun i d B1 H1 v H2 x y hd hv => hY i d B1 H1 v H2 x y hd (w.yields i H1 v H2 (List.getElem?_eq_some_iff.mp hd).1 (hG H1 (x.trans y)) hv)⟩
section
variable {K : PySem.W.Frag} {B0 : Hp} {ds : List PyData}
theorem wk_list {a : Addr} {xs : List V} (h : SqL K B0 a xs) (hd : DpAll K B0 xs ds) : Wk K (Itl K a) B0 ds := wk_of walk_list (DpAll.length hd) (fun H1 e => ex_l e h) fun i d B1 H1 x H2 e1 e2 hi y => by
  obtain ⟨rfl, hx⟩ := y
  obtain ⟨d', k1, k2⟩ := hd.get hx
  rw [hi] at k1
  cases k1
  exact ⟨B1, .refl e2, dp_mono e1 k2⟩
theorem wk_tup {a : Addr} {xs : List V} (h : SqT K B0 a xs) (hd : DpAll K B0 xs ds) : Wk K (Itt K a) B0 ds := wk_of walk_tup (DpAll.length hd) (fun H1 e => ex_t e h) fun i d B1 H1 x H2 e1 e2 hi y => by
  obtain ⟨rfl, hx⟩ := y
  obtain ⟨d', k1, k2⟩ := hd.get hx
  rw [hi] at k1
  cases k1
  exact ⟨B1, .refl e2, dp_mono e1 k2⟩
def rgD (lo : Int) (n : Nat) : List PyData := (List.range n).map fun i => .int (lo + (i : Nat))
theorem wk_range {lo : Int} {n : Nat} : Wk K (Itr lo n) B0 (rgD lo n) := wk_of walk_range (by unfold rgD; rw [List.length_map, List.length_range]) (fun _ _ => trivial) fun i d B1 H1 x H2 e1 e2 hi y => by
  obtain ⟨rfl, rfl⟩ := y
  unfold rgD at hi
  rw [List.getElem?_map] at hi
  obtain ⟨j, hj, rfl⟩ := Option.map_eq_some_iff.mp hi
  have e : j = i := by
    have := List.getElem?_eq_some_iff.mp hj
    obtain ⟨h1, h2⟩ := this
    rw [List.getElem_range] at h2
    exact h2.symm
  subst e
  exact ⟨B1, .refl e2, .int _⟩
def enD (k0 : Int) : List PyData → List PyData
  | [] => []
  | d :: ds => .tuple [.int k0, d] :: enD (k0 + 1) ds
theorem enD_length : ∀ (ds : List PyData) (k0 : Int), (enD k0 ds).length = ds.length
  | [], _ => rfl
  | _ :: ds, k0 => congrArg Nat.succ (enD_length ds (k0 + 1))
theorem enD_get : ∀ (ds : List PyData) (k0 : Int) (i : Nat), (enD k0 ds)[i]? = (ds[i]?).map fun d => .tuple [.int (k0 + (i : Nat)), d]
  | [], k0, i => by simp [enD]
  | d :: ds, k0, 0 => by
    show some (PyData.tuple [.int k0, d]) = some (.tuple [.int (k0 + ((0 : Nat) : Int)), d])
    rw [show k0 + ((0 : Nat) : Int) = k0 by omega]
  | d :: ds, k0, i + 1 => by
    show (enD (k0 + 1) ds)[i]? = (ds[i]?).map _
    rw [enD_get ds (k0 + 1) i]
    congr 1
    funext d'
    rw [show k0 + 1 + (i : Nat) = k0 + ((i + 1 : Nat) : Int) by omega]
theorem pair_new {B1 H1 H2 : Hp} {T : Addr} {i : Int} {x : V} {d : PyData} (e2 : Ex B1 H1) (hT : H1 T = none) (h : H2 = upd H1 T (.tup [.int i, x])) (hd : Dp K B1 x d) : ∃ B2, Gr B1 H1 B2 H2 ∧ Dp K B2 (.ref T) (.tuple [.int i, d]) := by
  subst h
  have g : Gr B1 H1 (upd B1 T (.tup [.int i, x])) (upd H1 T (.tup [.int i, x])) := Gr.new e2 hT
  exact ⟨_, g, .tup (st_of upd_same) (.cons (.int i) (.cons (dp_mono g.hg hd) .nil))⟩
theorem wk_enL {a : Addr} {xs : List V} {k0 : Int} (h : SqL K B0 a xs) (hd : DpAll K B0 xs ds) : Wk K (IteL K a k0) B0 (enD k0 ds) := wk_of walk_enumL (by rw [enD_length]; exact DpAll.length hd) (fun H1 e => ex_l e h) fun i d B1 H1 x H2 e1 e2 hi y => by
  obtain ⟨T, z, rfl, hT, hH, hx⟩ := y
  obtain ⟨d', k1, k2⟩ := hd.get hx
  rw [enD_get, k1] at hi
  cases hi
  exact pair_new e2 hT hH (dp_mono e1 k2)
theorem wk_enT {a : Addr} {xs : List V} {k0 : Int} (h : SqT K B0 a xs) (hd : DpAll K B0 xs ds) : Wk K (IteT K a k0) B0 (enD k0 ds) := wk_of walk_enumT (by rw [enD_length]; exact DpAll.length hd) (fun H1 e => ex_t e h) fun i d B1 H1 x H2 e1 e2 hi y => by
  obtain ⟨T, z, rfl, hT, hH, hx⟩ := y
  obtain ⟨d', k1, k2⟩ := hd.get hx
  rw [enD_get, k1] at hi
  cases hi
  exact pair_new e2 hT hH (dp_mono e1 k2)
theorem rev_get (ds : List PyData) (i : Nat) (d : PyData) (h : ds.reverse[i]? = some d) : ds[ds.length - 1 - i]? = some d := by
  have hi := (List.getElem?_eq_some_iff.mp h).1
  rw [List.length_reverse] at hi
  rw [List.getElem?_reverse hi] at h
  exact h
theorem wk_revL {a : Addr} {xs : List V} (h : SqL K B0 a xs) (hd : DpAll K B0 xs ds) : Wk K (Itv K a xs.length) B0 ds.reverse := wk_of walk_rev (by rw [List.length_reverse]; exact DpAll.length hd) (fun H1 e => ex_l e h) fun i d B1 H1 x H2 e1 e2 hi y => by
  obtain ⟨rfl, hx⟩ := y
  obtain ⟨d', k1, k2⟩ := hd.get hx
  rw [DpAll.length hd, rev_get ds i d hi] at k1
  cases k1
  exact ⟨B1, .refl e2, dp_mono e1 k2⟩
theorem wk_revT {a : Addr} {xs : List V} (h : SqT K B0 a xs) (hd : DpAll K B0 xs ds) : Wk K (RT.ItvT K a xs.length) B0 ds.reverse := wk_of walk_revT (by rw [List.length_reverse]; exact DpAll.length hd) (fun H1 e => ex_t e h) fun i d B1 H1 x H2 e1 e2 hi y => by
  obtain ⟨rfl, hx⟩ := y
  obtain ⟨d', k1, k2⟩ := hd.get hx
  rw [DpAll.length hd, rev_get ds i d hi] at k1
  cases k1
  exact ⟨B1, .refl e2, dp_mono e1 k2⟩
end
def dItems (f : Dn PyData) : Dn (List PyData) := dBind f fun d => dLift (itemsOf d)
def dRev (f : Dn PyData) : Dn (List PyData) := dBind f fun d => dLift ((itemsOf d).map List.reverse)
def dEnum (f : Dn (List PyData)) : Dn (List PyData) := dBind f fun ds => match ds with
  | [d] => dLift ((itemsOf d).map (enD 0))
  | _ => fun _ => none
def dEnumS (f g : Dn (List PyData)) : Dn (List PyData) := dBind f fun ds => dBind g fun ks => match ds, ks with
  | [d], [.int k] => if -1000000 ≤ k ∧ k ≤ 1000000 then dLift ((itemsOf d).map (enD k)) else fun _ => none
  | _, _ => fun _ => none
def big (i : Int) : Bool := decide (-1000000 ≤ i ∧ i ≤ 1000000)
def dRg1 (f : Dn (List PyData)) : Dn (List PyData) := dBind f fun ds => match ds with
  | [.int n] => if big n = true then dK (rgD 0 n.toNat) else fun _ => none
  | _ => fun _ => none
def dRg2 (f : Dn (List PyData)) : Dn (List PyData) := dBind f fun ds => match ds with
  | [.int i, .int j] => if (big i && big j) = true then dK (rgD i (j - i).toNat) else fun _ => none
  | _ => fun _ => none
section
variable {K : PySem.W.Frag} {te : TE} {ta tk : TA} {f : Dn PyData} {fl fk : Dn (List PyData)}
theorem si_row (h : SE K te f) : SI K (iRow K te) (dItems f) := fun W hW σ e B H a ds e' h' R q => by
  obtain ⟨d, e1, h1, h2⟩ := dBind_some h'
  obtain ⟨h3, rfl⟩ := dLift_some h2
  obtain ⟨b, rfl⟩ := items_rows h3
  refine h W hW σ e B H a _ e' h1 _ fun v B1 H1 a1 g1 d1 => ?_
  obtain ⟨p, xs, rfl, hr, hd⟩ := row_of d1
  refine ⟨p, rfl, ?_⟩
  rcases hr with hr | hr
  · exact .inl ⟨⟨xs, ex_l a1.ex hr⟩, q _ B1 H1 a1 g1 (wk_list hr hd)⟩
  · exact .inr ⟨⟨xs, ex_t a1.ex hr⟩, q _ B1 H1 a1 g1 (wk_tup hr hd)⟩
theorem si_rev (h : SE K te f) : SI K (RT.iRevA K te) (dRev f) := fun W hW σ e B H a ds e' h' R q => by
  obtain ⟨d, e1, h1, h2⟩ := dBind_some h'
  obtain ⟨h3, rfl⟩ := dLift_some h2
  obtain ⟨xs, hx, rfl⟩ := Option.map_eq_some_iff.mp h3
  obtain ⟨b, rfl⟩ := items_rows hx
  refine h W hW σ e B H a _ e' h1 _ fun v B1 H1 a1 g1 d1 => ?_
  obtain ⟨p, us, rfl, hr, hd⟩ := row_of d1
  refine ⟨p, us, rfl, ?_⟩
  rcases hr with hr | hr
  · exact .inl ⟨ex_l a1.ex hr, q _ B1 H1 a1 g1 (wk_revL hr hd)⟩
  · exact .inr ⟨ex_t a1.ex hr, q _ B1 H1 a1 g1 (wk_revT hr hd)⟩
theorem si_enumR (h : SA K ta fl) : SI K (iEnumR K ta) (dEnum fl) := fun W hW σ e B H a ds e' h' R q => by
  obtain ⟨d, e1, h1, h2⟩ := dBind_some h'
  split at h2
  · rename_i d1
    obtain ⟨h3, rfl⟩ := dLift_some h2
    obtain ⟨xs, hx, rfl⟩ := Option.map_eq_some_iff.mp h3
    obtain ⟨b, rfl⟩ := items_rows hx
    refine h W hW σ e B H a _ e' h1 _ fun vs B1 H1 a1 g1 d1 => ?_
    cases d1 with
    | cons dv dr =>
      cases dr
      obtain ⟨p, us, rfl, hr, hd⟩ := row_of dv
      refine ⟨_, rfl, p, rfl, ?_⟩
      rcases hr with hr | hr
      · exact .inl ⟨⟨us, ex_l a1.ex hr⟩, q _ B1 H1 a1 g1 (wk_enL hr hd)⟩
      · exact .inr ⟨⟨us, ex_t a1.ex hr⟩, q _ B1 H1 a1 g1 (wk_enT hr hd)⟩
  · cases h2
theorem si_enumS (h : SA K ta fl) (hk : SA K tk fk) : SI K (iEnumS K ta tk) (dEnumS fl fk) := fun W hW σ e B H a ds e' h' R q => by
  obtain ⟨d, e1, h1, h2⟩ := dBind_some h'
  obtain ⟨ks, e2, h1', h4⟩ := dBind_some h2
  clear h2
  split at h4
  · rename_i d1 k
    split at h4
    · rename_i hb
      obtain ⟨h3, rfl⟩ := dLift_some h4
      obtain ⟨xs, hx, rfl⟩ := Option.map_eq_some_iff.mp h3
      obtain ⟨b, rfl⟩ := items_rows hx
      refine h W hW σ e B H a _ e1 h1 _ fun vs B1 H1 a1 g1 d1 => hk W hW σ e1 B1 H1 a1 _ e' h1' _ fun ws B2 H2 a2 g2 d2 => ?_
      cases d1 with
      | cons dv dr =>
        cases dr
        have ek := DpAll.ints (ns := [k]) d2
        subst ek
        obtain ⟨p, us, rfl, hr, hd⟩ := row_of dv
        refine ⟨_, k, rfl, rfl, by omega, by omega, p, rfl, ?_⟩
        rcases hr with hr | hr
        · exact .inl ⟨⟨us, ex_l (g2.go.hg.trans a2.ex) hr⟩, q _ B2 H2 a2 (g1.trans g2) (wk_enL (ex_l g2.go.hg hr) (dpa_mono g2.go.hg hd))⟩
        · exact .inr ⟨⟨us, ex_t (g2.go.hg.trans a2.ex) hr⟩, q _ B2 H2 a2 (g1.trans g2) (wk_enT (ex_t g2.go.hg hr) (dpa_mono g2.go.hg hd))⟩
    · cases h4
  · cases h4
theorem si_rg1 (h : SA K ta fl) : SI K (iRng1 ta) (dRg1 fl) := fun W hW σ e B H a ds e' h' R q => by
  obtain ⟨d, e1, h1, h2⟩ := dBind_some h'
  split at h2
  · rename_i n
    split at h2
    · rename_i hb
      obtain ⟨rfl, rfl⟩ := dK_some h2
      have hb := of_decide_eq_true hb
      refine h W hW σ e B H a _ e' h1 _ fun vs B1 H1 a1 g1 d1 => ?_
      have ek := DpAll.ints (ns := [n]) d1
      subst ek
      have bg : (1000000 : Int) < 2 ^ 62 := by decide
      exact ⟨n, rfl, by omega, by omega, q _ B1 H1 a1 g1 wk_range⟩
    · cases h2
  · cases h2
theorem si_rg2 (h : SA K ta fl) : SI K (iRng2 ta) (dRg2 fl) := fun W hW σ e B H a ds e' h' R q => by
  obtain ⟨d, e1, h1, h2⟩ := dBind_some h'
  split at h2
  · rename_i i j
    split at h2
    · rename_i hb
      obtain ⟨rfl, rfl⟩ := dK_some h2
      rw [Bool.and_eq_true] at hb
      have hb1 := of_decide_eq_true hb.1
      have hb2 := of_decide_eq_true hb.2
      refine h W hW σ e B H a _ e' h1 _ fun vs B1 H1 a1 g1 d1 => ?_
      have ek := DpAll.ints (ns := [i, j]) d1
      subst ek
      have bg : (1000000 : Int) < 2 ^ 62 := by decide
      exact ⟨i, j, rfl, ⟨by omega, by omega, by omega, by omega⟩, q _ B1 H1 a1 g1 wk_range⟩
    · cases h2
  · cases h2
end

/-! ### for, while -/
def runFor (g : PyData → En → Option En) (b : Ds) : List PyData → Ds
  | [] => fun e => some (.nx e)
  | d :: ds => fun e => match g d e with
    | none => none
    | some e1 => match b e1 with
      | none => none
      | some (.nx e2) => runFor g b ds e2
      | some (.ct e2) => runFor g b ds e2
      | some (.bk e2) => some (.nx e2)
      | some (.rt d e2) => some (.rt d e2)
      | some (.rl xs e2) => some (.rl xs e2)
def sFor (it : Dn (List PyData)) (g : PyData → En → Option En) (b : Ds) : Ds := fun e => match it e with
  | some (ds, e1) => runFor g b ds e1
  | none => none
def whileN (c : Dn Bool) (b : Ds) : Nat → Ds
  | 0 => fun _ => none
  | n + 1 => fun e => match c e with
    | none => none
    | some (false, e1) => some (.nx e1)
    | some (true, e1) => match b e1 with
      | none => none
      | some (.nx e2) => whileN c b n e2
      | some (.ct e2) => whileN c b n e2
      | some (.bk e2) => some (.nx e2)
      | some (.rt d e2) => some (.rt d e2)
      | some (.rl xs e2) => some (.rl xs e2)
open Classical in
noncomputable def sWhile (c : Dn Bool) (b : Ds) : Ds := fun e => if h : ∃ n r, whileN c b n e = some r then some h.choose_spec.choose else none
theorem whileN_more {c : Dn Bool} {b : Ds} : ∀ {n m : Nat} {e : En} {r : Rs}, n ≤ m → whileN c b n e = some r → whileN c b m e = some r
  | 0, m, e, r, _, h => by cases h
  | n + 1, 0, e, r, hm, h => absurd hm (by omega)
  | n + 1, m + 1, e, r, hm, h => by
    have ih := fun e r => whileN_more (c := c) (b := b) (n := n) (m := m) (e := e) (r := r) (by omega)
    unfold whileN at h ⊢
    split at h <;> rename_i hc
    · cases h
    · exact h
    · split at h <;> rename_i hb
      · cases h
      · exact ih _ _ h
      · exact ih _ _ h
      · exact h
      · exact h
      · exact h
theorem sWhile_eq {c : Dn Bool} {b : Ds} {n : Nat} {e : En} {r : Rs} (h : whileN c b n e = some r) : sWhile c b e = some r := by
  have hx : ∃ n r, whileN c b n e = some r := ⟨n, r, h⟩
  unfold sWhile
  rw [dif_pos hx]
  have h2 := hx.choose_spec.choose_spec
  have e1 := whileN_more (Nat.le_max_left hx.choose n) h2
  have e2 := whileN_more (Nat.le_max_right hx.choose n) h
  rw [e1] at e2
  exact e2
theorem sWhile_some {c : Dn Bool} {b : Ds} {e : En} {r : Rs} (h : sWhile c b e = some r) : ∃ n, whileN c b n e = some r := by
  unfold sWhile at h
  split at h
  · rename_i hx
    cases h
    exact ⟨_, hx.choose_spec.choose_spec⟩
  · cases h
section
variable {K : PySem.W.Frag} {wi : TI} {g : TG} {tb : TS} {tc : TT} {sl : List Nat} {it : Dn (List PyData)} {fg : PyData → En → Option En} {fb : Ds} {c : Dn Bool}
theorem ss_for (hi : SI K wi it) (hg : SG K g sl fg) (hb : SS K tb fb) : SS K (tFor wi g tb) (sFor it fg fb) := fun W hW σ e B H a r hr D q => by
  unfold sFor at hr
  split at hr
  · rename_i ds e1 h1
    refine hi W hW σ e B H a ds e1 h1 _ fun J B1 H1 a1 g1 wk => ?_
    have gM := a.goM g1
    refine ⟨fun i m σ' H' => ∃ e' B', At W σ' e' B' H' ∧ Go W.M B H B' H' ∧ Ex B1 B' ∧ i ≤ ds.length ∧ m = ds.length - i ∧ runFor fg fb (ds.drop i) e' = some r, ⟨_, e1, B1, a1, gM, Ex.refl B1, Nat.zero_le _, rfl, hr⟩, ?_⟩
    rintro i m σ' H' ⟨e', B', a', g', x', hi', rfl, hr'⟩
    by_cases hlt : i < ds.length
    · refine .inr ⟨wk.go i B' H' x' a'.ex hlt, fun σ2 H2 => ∃ e2 B2, At W σ2 e2 B2 H2 ∧ Go W.M B H B2 H2 ∧ Ex B1 B2 ∧ runFor fg fb (ds.drop (i + 1)) e2 = some r, ?_, ?_⟩
      · rintro σ2 H2 ⟨e2, B2, a2, g2, x2, hr2⟩
        exact ⟨ds.length - (i + 1), by omega, e2, B2, a2, g2, x2, hlt, rfl, hr2⟩
      · intro x H2 hy
        obtain ⟨B2, gr, hd⟩ := wk.yl i ds[i] B' H' x H2 x' a'.ex (List.getElem?_eq_getElem hlt) hy
        rw [List.drop_eq_getElem_cons hlt] at hr'
        unfold runFor at hr'
        have a2 := a'.gr gr
        have g2 := g'.trans (.gr gr)
        split at hr'
        · cases hr'
        rename_i e3 h3
        refine hg W hW σ' e' B2 H2 x _ a2 hd e3 h3 _ fun σ3 a3 o3 _ _ => ?_
        have x3 := x'.trans gr.hg
        split at hr'
        · cases hr'
        · rename_i e4 h4
          exact hb W hW σ3 e3 B2 H2 a3 _ h4 _ fun σ5 B5 H5 a5 g5 => ⟨e4, B5, a5, g2.trans g5, x3.trans g5.hg, hr'⟩
        · rename_i e4 h4
          exact hb W hW σ3 e3 B2 H2 a3 _ h4 _ fun σ5 B5 H5 a5 g5 => ⟨e4, B5, a5, g2.trans g5, x3.trans g5.hg, hr'⟩
        · rename_i e4 h4
          cases hr'
          exact hb W hW σ3 e3 B2 H2 a3 _ h4 _ fun σ5 B5 H5 a5 g5 => q σ5 B5 H5 a5 (g2.trans g5)
        · rename_i d4 e4 h4
          cases hr'
          exact hb W hW σ3 e3 B2 H2 a3 _ h4 _ fun v σ5 B5 H5 a5 g5 => q v σ5 B5 H5 a5 (g2.trans g5)
        · rename_i d4 e4 h4
          cases hr'
          exact hb W hW σ3 e3 B2 H2 a3 _ h4 _ fun p vs σ5 B5 H5 a5 g5 => q p vs σ5 B5 H5 a5 (g2.trans g5)
    · have ei : i = ds.length := by omega
      subst ei
      rw [List.drop_length] at hr'
      cases hr'
      exact .inl ⟨wk.st B' H' x' a'.ex, q σ' B' H' a' g'⟩
  · cases hr
theorem ss_while (hc : ST K tc c) (hb : SS K tb fb) : SS K (tWhile tc tb) (sWhile c fb) := fun W hW σ e B H a r hr D q => by
  obtain ⟨n, hn⟩ := sWhile_some hr
  refine ⟨fun m σ' H' => ∃ e' B', At W σ' e' B' H' ∧ Go W.M B H B' H' ∧ whileN c fb m e' = some r, ⟨n, e, B, a, .refl _ _ _, hn⟩, ?_⟩
  rintro m σ' H' ⟨e', B', a', g', hr'⟩
  cases m with
  | zero => cases hr'
  | succ m =>
    unfold whileN at hr'
    split at hr'
    · cases hr'
    · rename_i e1 h1
      cases hr'
      refine hc W hW σ' e' B' H' a' _ e1 h1 _ fun B1 H1 a1 g1 => ?_
      rw [if_neg Bool.false_ne_true]
      exact q σ' B1 H1 a1 (g'.trans (a'.goM g1))
    · rename_i e1 h1
      refine hc W hW σ' e' B' H' a' _ e1 h1 _ fun B1 H1 a1 g1 => ?_
      rw [if_pos rfl]
      have g2 := g'.trans (a'.goM g1)
      refine ⟨fun σ2 H2 => ∃ e2 B2, At W σ2 e2 B2 H2 ∧ Go W.M B H B2 H2 ∧ whileN c fb m e2 = some r, fun σ2 H2 z => ⟨m, Nat.lt_succ_self m, z⟩, ?_⟩
      split at hr'
      · cases hr'
      · rename_i e4 h4
        exact hb W hW σ' e1 B1 H1 a1 _ h4 _ fun σ5 B5 H5 a5 g5 => ⟨e4, B5, a5, g2.trans g5, hr'⟩
      · rename_i e4 h4
        exact hb W hW σ' e1 B1 H1 a1 _ h4 _ fun σ5 B5 H5 a5 g5 => ⟨e4, B5, a5, g2.trans g5, hr'⟩
      · rename_i e4 h4
        cases hr'
        exact hb W hW σ' e1 B1 H1 a1 _ h4 _ fun σ5 B5 H5 a5 g5 => q σ5 B5 H5 a5 (g2.trans g5)
      · rename_i d4 e4 h4
        cases hr'
        exact hb W hW σ' e1 B1 H1 a1 _ h4 _ fun v σ5 B5 H5 a5 g5 => q v σ5 B5 H5 a5 (g2.trans g5)
      · rename_i d4 e4 h4
        cases hr'
        exact hb W hW σ' e1 B1 H1 a1 _ h4 _ fun p vs σ5 B5 H5 a5 g5 => q p vs σ5 B5 H5 a5 (g2.trans g5)
end
end Fd
end

section
set_option Elab.async false
set_option linter.all false
set_option maxRecDepth 100000
set_option maxHeartbeats 1000000
/-! Walks by meaning 4: comprehensions, defs and calls. -/
namespace Fd
open PySem PySem.Spec PyProof.Rows L2 Evl Tb

/-! ### comprehensions -/
def wipeE (e : En) : List Nat → En
  | [] => e
  | v :: vs => (wipeE e vs).set v .no
def restE (e1 e2 : En) : List Nat → En
  | [] => e2
  | v :: vs => (restE e1 e2 vs).set v (e1.getD v .no)
def vsFree (e : En) (vs : List Nat) : Bool := vs.all fun v => match e[v]? with
  | some .no => true
  | some (.d _) => true
  | _ => false
theorem wipe_len (σ : L2.St) : ∀ vs, (wipe σ vs).length = σ.length := wipe_length σ
theorem wipeE_len (e : En) : ∀ vs, (wipeE e vs).length = e.length
  | [] => rfl
  | v :: vs => by
    unfold wipeE
    rw [List.length_set, wipeE_len e vs]
theorem restE_len (e1 e2 : En) : ∀ vs, (restE e1 e2 vs).length = e2.length
  | [] => rfl
  | v :: vs => by
    unfold restE
    rw [List.length_set, restE_len e1 e2 vs]
theorem wipe_get (σ : L2.St) (i : Nat) : ∀ vs, (wipe σ vs)[i]? = if i ∈ vs then (if i < σ.length then some none else none) else σ[i]?
  | [] => by simp [wipe]
  | v :: vs => by
    unfold wipe
    rw [List.getElem?_set, wipe_get σ i vs, wipe_len]
    by_cases c : v = i
    · subst c
      by_cases d : v < σ.length
      · simp [d]
      · simp [d]
    · have c' : ¬ i = v := fun z => c z.symm
      simp [c, c']
theorem wipeE_get (e : En) (i : Nat) : ∀ vs, (wipeE e vs)[i]? = if i ∈ vs then (if i < e.length then some .no else none) else e[i]?
  | [] => by simp [wipeE]
  | v :: vs => by
    unfold wipeE
    rw [List.getElem?_set, wipeE_get e i vs, wipeE_len]
    by_cases c : v = i
    · subst c
      by_cases d : v < e.length
      · simp [d]
      · simp [d]
    · have c' : ¬ i = v := fun z => c z.symm
      simp [c, c']
theorem restE_get (e1 e2 : En) (i : Nat) : ∀ vs, (restE e1 e2 vs)[i]? = if i ∈ vs then (if i < e2.length then some (e1.getD i .no) else none) else e2[i]?
  | [] => by simp [restE]
  | v :: vs => by
    unfold restE
    rw [List.getElem?_set, restE_get e1 e2 i vs, restE_len]
    by_cases c : v = i
    · subst c
      by_cases d : v < e2.length
      · simp [d]
      · simp [d]
    · have c' : ¬ i = v := fun z => c z.symm
      simp [c, c']
theorem wipe_same {σ σ2 : L2.St} {vs : List Nat} (hl : σ2.length = σ.length) (h : ∀ i, i ∉ vs → σ2[i]? = σ[i]?) : wipe σ2 vs = wipe σ vs := by
  apply List.ext_getElem?
  intro i
  rw [wipe_get, wipe_get, hl]
  by_cases c : i ∈ vs
  · rw [if_pos c, if_pos c]
  · rw [if_neg c, if_neg c]
    exact h i c
theorem wipe_wipe (σ : L2.St) (vs : List Nat) : wipe (wipe σ vs) vs = wipe σ vs := wipe_same (wipe_len σ vs) fun i hi => by rw [wipe_get, if_neg hi]
section
variable {W : Wo} {σ : L2.St} {e : En} {B H : Hp} {vs : List Nat}
theorem At.wipe (a : At W σ e B H) (hp : ∀ i ∈ vs, W.pn i = none) : At W (L2.wipe σ vs) (wipeE e vs) B H where
  ex := a.ex
  nm := a.nm
  len := by rw [wipe_len, wipeE_len]; exact a.len
  dat := fun i x h => by
    rw [wipeE_get] at h
    rw [wipe_get]
    by_cases c : i ∈ vs
    · rw [if_pos c] at h
      split at h <;> cases h
    · rw [if_neg c] at h ⊢
      exact a.dat i x h
  own := fun i s xs h1 h2 => by
    rw [wipeE_get] at h1
    rw [wipe_get]
    by_cases c : i ∈ vs
    · rw [if_pos c] at h1
      split at h1
      · cases h1
        cases h2
      · cases h1
    · rw [if_neg c] at h1 ⊢
      exact a.own i s xs h1 h2
  sep := fun i j s t p xs ys h1 h2 h3 h4 h5 h6 => by
    have go : ∀ (i : Nat) s xs, (wipeE e vs)[i]? = some s → s.own = some xs → i ∉ vs ∧ e[i]? = some s := fun i s xs h1 h2 => by
      rw [wipeE_get] at h1
      by_cases c : i ∈ vs
      · rw [if_pos c] at h1
        split at h1
        · cases h1
          cases h2
        · cases h1
      · rw [if_neg c] at h1
        exact ⟨c, h1⟩
    obtain ⟨n1, k1⟩ := go i s xs h1 h2
    obtain ⟨n2, k2⟩ := go j t ys h3 h4
    rw [wipe_get, if_neg n1] at h5
    rw [wipe_get, if_neg n2] at h6
    exact a.sep i j s t p xs ys k1 h2 k2 h4 h5 h6
  pin := fun i b hb => by
    have c : i ∉ vs := fun z => by
      rw [hp i z] at hb
      cases hb
    rw [wipeE_get, wipe_get, if_neg c, if_neg c]
    exact a.pin i b hb
theorem ow_wipe {b : Addr} (h : Ow (L2.wipe σ vs) (wipeE e vs) b) : Ow σ e b := by
  obtain ⟨i, s, xs, h1, h2, h3⟩ := h
  rw [wipeE_get] at h1
  rw [wipe_get] at h3
  by_cases c : i ∈ vs
  · rw [if_pos c] at h1
    split at h1
    · cases h1
      cases h2
    · cases h1
  · rw [if_neg c] at h1 h3
    exact ⟨i, s, xs, h1, h2, h3⟩
theorem free_at {i : Nat} (h : vsFree e vs = true) (hi : i ∈ vs) : e[i]? = some .no ∨ ∃ x, e[i]? = some (.d x) := by
  have z := List.all_eq_true.mp h i hi
  split at z
  · exact .inl (by assumption)
  · exact .inr ⟨_, by assumption⟩
  · cases z
theorem free_pn (a : At W σ e B H) (h : vsFree e vs = true) : ∀ i ∈ vs, W.pn i = none := fun i hi => by
  cases hp : W.pn i with
  | none => rfl
  | some b =>
    obtain ⟨⟨xs, k⟩, _⟩ := a.pin i b hp
    rcases free_at h hi with z | ⟨x, z⟩ <;> rw [k] at z <;> cases z
theorem At.rest {e1 e2 : En} {B1 H1 B2 H2 : Hp} (a1 : At W σ e1 B1 H1) (hf : vsFree e1 vs = true) (x : Ex B1 B2) (a2 : At W (L2.wipe σ vs) e2 B2 H2) : At W σ (restE e1 e2 vs) B2 H2 := by
  have go : ∀ (i : Nat) s xs, (restE e1 e2 vs)[i]? = some s → s.own = some xs → i ∉ vs ∧ e2[i]? = some s := fun i s xs h1 h2 => by
    rw [restE_get] at h1
    by_cases c : i ∈ vs
    · rw [if_pos c] at h1
      split at h1
      · cases h1
        rw [List.getD_eq_getElem?_getD] at h2
        rcases free_at hf c with z | ⟨y, z⟩ <;> rw [z] at h2 <;> cases h2
      · cases h1
    · rw [if_neg c] at h1
      exact ⟨c, h1⟩
  have l2 := a2.len
  rw [wipe_len] at l2
  refine ⟨a2.ex, a2.nm, by rw [restE_len]; exact l2, fun i y h => ?_, fun i s xs h1 h2 => ?_, fun i j s t p xs ys h1 h2 h3 h4 h5 h6 => ?_, fun i b hb => ?_⟩
  · rw [restE_get] at h
    by_cases c : i ∈ vs
    · rw [if_pos c] at h
      split at h
      · have h' := Option.some.inj h
        rw [List.getD_eq_getElem?_getD] at h'
        rcases free_at hf c with z | ⟨y', z⟩
        · rw [z] at h'
          cases h'
        · rw [z] at h'
          cases h'
          obtain ⟨v, k1, k2⟩ := a1.dat i y z
          exact ⟨v, k1, dp_mono x k2⟩
      · cases h
    · rw [if_neg c] at h
      obtain ⟨v, k1, k2⟩ := a2.dat i y h
      rw [wipe_get, if_neg c] at k1
      exact ⟨v, k1, k2⟩
  · obtain ⟨c, k⟩ := go i s xs h1 h2
    obtain ⟨p, us, k1, k2⟩ := a2.own i s xs k h2
    rw [wipe_get, if_neg c] at k1
    exact ⟨p, us, k1, k2⟩
  · obtain ⟨n1, k1⟩ := go i s xs h1 h2
    obtain ⟨n2, k2⟩ := go j t ys h3 h4
    refine a2.sep i j s t p xs ys k1 h2 k2 h4 ?_ ?_
    · rw [wipe_get, if_neg n1]
      exact h5
    · rw [wipe_get, if_neg n2]
      exact h6
  · have c : i ∉ vs := fun z => by
      rw [free_pn a1 hf i z] at hb
      cases hb
    obtain ⟨⟨xs, k1⟩, k2⟩ := a2.pin i b hb
    rw [wipe_get, if_neg c] at k2
    exact ⟨⟨xs, by rw [restE_get, if_neg c]; exact k1⟩, k2⟩
theorem ow_rest {e1 e2 : En} {b : Addr} (hf : vsFree e1 vs = true) (h : Ow σ (restE e1 e2 vs) b) : Ow (L2.wipe σ vs) e2 b := by
  obtain ⟨i, s, xs, h1, h2, h3⟩ := h
  rw [restE_get] at h1
  by_cases c : i ∈ vs
  · rw [if_pos c] at h1
    split at h1
    · cases h1
      rw [List.getD_eq_getElem?_getD] at h2
      rcases free_at hf c with z | ⟨y, z⟩ <;> rw [z] at h2 <;> cases h2
    · cases h1
  · rw [if_neg c] at h1
    exact ⟨i, s, xs, h1, h2, by rw [wipe_get, if_neg c]; exact h3⟩
/-- an object that nothing here speaks of changes -/
theorem At.oth (a : At W σ e B H) {p : Addr} {o : HO} (h0 : B p = none) (no : ¬ Ow σ e p) : At W σ e B (upd H p o) where
  ex := Ex.mut a.ex h0
  nm := fun b hb => by
    by_cases c : b = p
    · subst c
      rw [upd_same] at hb
      cases hb
    · rw [upd_ne c] at hb
      exact a.nm b hb
  len := a.len
  dat := a.dat
  own := fun i s xs h1 h2 => by
    obtain ⟨q, us, g1, g2, g3, g4, g5⟩ := a.own i s xs h1 h2
    have qp : q ≠ p := fun z => by
      subst z
      exact no ⟨i, s, xs, h1, h2, g1⟩
    exact ⟨q, us, g1, g2, g3, by rw [upd_ne qp]; exact g4, g5⟩
  sep := a.sep
  pin := a.pin
theorem Go.put {M : Addr → Prop} {B H B' H' : Hp} {p : Addr} {o : HO} (g : Go M B H B' H') (hp : H p = none) : Go M B H B' (upd H' p o) :=
  ⟨g.hg, fun b u hM h => by
    have c : b ≠ p := fun z => by
      subst z
      rw [hp] at h
      cases h
    rw [upd_ne c]
    exact g.fr b u hM h, fun b h => by
    by_cases c : b = p
    · subst c
      rw [upd_same] at h
      cases h
    · rw [upd_ne c] at h
      exact g.dm b h, g.sp⟩
end
def runLc (g : PyData → En → Option En) (t : Dn Bool) (f : Dn PyData) (vs : List Nat) : List PyData → En → Option (List PyData × En)
  | [] => fun e => some ([], e)
  | d :: ds => fun e => match g d e with
    | none => none
    | some e1 => match t e1 with
      | none => none
      | some (false, e2) => runLc g t f vs ds (wipeE e2 vs)
      | some (true, e2) => match f e2 with
        | none => none
        | some (y, e3) => match runLc g t f vs ds (wipeE e3 vs) with
          | none => none
          | some (ys, e4) => some (y :: ys, e4)
def fewer (ds : List PyData) : Bool := decide (ds.length ≤ 40000)
def dLc (it : Dn (List PyData)) (g : PyData → En → Option En) (t : Dn Bool) (f : Dn PyData) (vs : List Nat) : Dn (List PyData) := fun e => match it e with
  | none => none
  | some (ds, e1) => if (vsFree e1 vs && fewer ds) = true then (match runLc g t f vs ds (wipeE e1 vs) with
    | none => none
    | some (ys, e2) => some (ys, restE e1 e2 vs)) else none
section
variable {K : PySem.W.Frag} {wi : TI} {g : TG} {tt : TT} {te : TE} {sl vs : List Nat} {it : Dn (List PyData)} {fg : PyData → En → Option En} {ft : Dn Bool} {f : Dn PyData}
theorem sl_lc (hi : SI K wi it) (hg : SG K g sl fg) (ht : ST K tt ft) (he : SE K te f) (hs : ∀ i ∈ sl, i ∈ vs) : SL K (tLc wi g tt te vs) (dLc it fg ft f vs) := fun W hW σ e B H a ys e' h' Q q => by
  unfold dLc at h'
  split at h'
  · cases h'
  rename_i ds e1 h1
  by_cases hc : (vsFree e1 vs && fewer ds) = true
  case neg =>
    rw [if_neg hc] at h'
    cases h'
  rw [if_pos hc] at h'
  rw [Bool.and_eq_true] at hc
  obtain ⟨hf, hlen⟩ := hc
  have hlen := of_decide_eq_true hlen
  split at h'
  · cases h'
  rename_i ys2 e2 h2
  cases h'
  refine hi W hW σ e B H a ds e1 h1 _ fun J B1 H1 a1 g1 wk => fun Dl hD => ?_
  have hpn := free_pn a1 hf
  have noD : ¬ Ow σ e1 Dl := fun z => (a1.ow z).2.1 hD
  have BD : B1 Dl = none := fresh_back a1.ex hD
  have aw : At W (L2.wipe σ vs) (wipeE e1 vs) B1 H1 := a1.wipe hpn
  refine ⟨fun i m H' => ∃ (e' : En) (B' : Hp) (acc : List V) (accd ys' : List PyData), At W (L2.wipe σ vs) e' B' H' ∧ Go (Ow σ e1) B1 H1 B' H' ∧ (∀ b, Ow (L2.wipe σ vs) e' b → Ow σ e1 b) ∧ H' Dl = some (.lst acc) ∧ B' Dl = none ∧ DpAll K B' acc accd ∧ i ≤ ds.length ∧ m = ds.length - i ∧
    runLc fg ft f vs (ds.drop i) e' = some (ys', e2) ∧ accd ++ ys' = ys ∧ accd.length ≤ i, ⟨_, _, B1, [], [], ys, aw.oth BD (fun z => noD (ow_wipe z)), (Go.refl _ _ _).put hD, fun b => ow_wipe, upd_same, BD, .nil, Nat.zero_le _, rfl, h2, rfl, Nat.le_refl _⟩, ?_⟩
  rintro i m H' ⟨e', B', acc, accd, ys', a', g', o', hl', hB', hd', hi', rfl, hr', hys, hal⟩
  by_cases hlt : i < ds.length
  · refine .inr ⟨wk.go i B' H' g'.hg a'.ex hlt, fun H2 => ∃ (e' : En) (B' : Hp) (acc : List V) (accd ys' : List PyData), At W (L2.wipe σ vs) e' B' H2 ∧ Go (Ow σ e1) B1 H1 B' H2 ∧ (∀ b, Ow (L2.wipe σ vs) e' b → Ow σ e1 b) ∧ H2 Dl = some (.lst acc) ∧ B' Dl = none ∧ DpAll K B' acc accd ∧
      runLc fg ft f vs (ds.drop (i + 1)) e' = some (ys', e2) ∧ accd ++ ys' = ys ∧ accd.length ≤ i + 1, ?_, ?_⟩
    · rintro H2 ⟨e', B', acc, accd, ys', p1, p2, p3, p4, p5, p6, p7, p8, p9⟩
      exact ⟨ds.length - (i + 1), by omega, e', B', acc, accd, ys', p1, p2, p3, p4, p5, p6, hlt, rfl, p7, p8, p9⟩
    intro x H2 hy
    obtain ⟨B2, gr, hdx⟩ := wk.yl i ds[i] B' H' x H2 g'.hg a'.ex (List.getElem?_eq_getElem hlt) hy
    rw [List.drop_eq_getElem_cons hlt] at hr'
    unfold runLc at hr'
    have a2 := a'.gr gr
    have g2 : Go (Ow σ e1) B1 H1 B2 H2 := g'.trans (.gr gr)
    split at hr'
    · cases hr'
    rename_i e3 h3
    refine hg W hW (L2.wipe σ vs) e' B2 H2 x _ a2 hdx e3 h3 _ fun σ3 a3 o3 w3 l3 => ?_
    have sw : L2.wipe σ3 vs = L2.wipe σ vs := by
      rw [← wipe_wipe σ vs]
      exact wipe_same l3 fun j hj => w3 j fun z => hj (hs j z)
    refine ⟨sw, ?_⟩
    have o3' : ∀ b, Ow σ3 e3 b → Ow σ e1 b := fun b hb => o' b (o3 b hb)
    have no3 : ¬ Ow σ3 e3 Dl := fun z => noD (o3' _ z)
    have hl2 : H2 Dl = some (.lst acc) := gr.h12 _ _ hl'
    have hne2 : H2 Dl ≠ none := by rw [hl2]; exact fun z => nomatch z
    have hB2 : B2 Dl = none := gr.sep Dl hB' (by rw [hl']; exact fun z => nomatch z)
    split at hr'
    · cases hr'
    · rename_i e4 h4
      refine ht W hW σ3 e3 B2 H2 a3 _ e4 h4 _ fun B4 H4 a4 g4 => ?_
      rw [if_neg Bool.false_ne_true]
      have a5 := a4.wipe hpn
      rw [sw] at a5
      refine ⟨wipeE e4 vs, B4, acc, accd, ys', a5, g2.trans (g4.go.mono o3'), fun b hb => o3' b (g4.ow b ?_), g4.go.fr _ _ no3 hl2, g4.go.sp Dl no3 hB2 hne2, dpa_mono (gr.hg.trans g4.go.hg) hd', hr', hys, by omega⟩
      rw [← sw] at hb
      exact ow_wipe hb
    · rename_i e4 h4
      refine ht W hW σ3 e3 B2 H2 a3 _ e4 h4 _ fun B4 H4 a4 g4 => ?_
      rw [if_pos rfl]
      split at hr'
      · cases hr'
      rename_i y e5 h5
      split at hr'
      · cases hr'
      rename_i ys3 e6 h6
      cases hr'
      have hl4 := g4.go.fr _ _ no3 hl2
      have hB4 := g4.go.sp Dl no3 hB2 hne2
      have no4 : ¬ Ow σ3 e4 Dl := fun z => no3 (g4.ow _ z)
      refine he W hW σ3 e4 B4 H4 a4 y e5 h5 _ fun v B5 H5 a5 g5 d5 => ?_
      have hl5 := g5.go.fr _ _ no4 hl4
      have hB5 := g5.go.sp Dl no4 hB4 (by rw [hl4]; exact fun z => nomatch z)
      have no5 : ¬ Ow σ3 e5 Dl := fun z => no4 (g5.ow _ z)
      have hal2 := DpAll.length hd'
      have a6 := (a5.oth (o := .lst (acc ++ [v])) hB5 no5).wipe hpn
      rw [sw] at a6
      refine ⟨acc, hl5, sz_lt (by omega), wipeE e5 vs, B5, acc ++ [v], accd ++ [y], ys3, a6, Go.put ((g2.trans (g4.go.mono o3')).trans (g5.go.mono fun b hb => o3' b (g4.ow b hb))) hD, fun b hb => o3' b (g4.ow b (g5.ow b ?_)), upd_same, hB5, ?_, h6, ?_, ?_⟩
      · rw [← sw] at hb
        exact ow_wipe hb
      · exact (dpa_mono ((gr.hg.trans g4.go.hg).trans g5.go.hg) hd').append (.one d5)
      · rw [List.append_assoc]
        exact hys
      · rw [List.length_append]
        show accd.length + 1 ≤ i + 1
        omega
  · have ei : i = ds.length := by omega
    subst ei
    rw [List.drop_length] at hr'
    unfold runLc at hr'
    cases hr'
    rw [List.append_nil] at hys
    subst hys
    refine .inl ⟨wk.st B' H' g'.hg a'.ex, ?_⟩
    exact q Dl acc B' H' (a1.rest hf g'.hg a') (g1.trans ⟨g', fun b hb => o' b (ow_rest hf hb)⟩) (g1.go.dm Dl hD) hl' hB' hd'
end
end Fd
end

section
set_option Elab.async false
set_option linter.all false
set_option maxRecDepth 100000
set_option maxHeartbeats 1000000
/-! Walks by meaning 5: defs and calls. -/
namespace Fd
open PySem PySem.Spec PyProof.Rows L2 Evl Tb

/-! ### what a def promises -/
def spF (K : PySem.W.Frag) (n : Nat) (F : List PyData → Option PyData) : Sp := fun vs H Q _ => ∃ (B : Hp) (ds : List PyData) (d : PyData), Ex B H ∧ ds.length = n ∧ DpAll K B vs ds ∧ F ds = some d ∧ ∀ v B' H', Gr B H B' H' → Dp K B' v d → Q v H'
def spL (K : PySem.W.Frag) (n : Nat) (F : List PyData → Option (List PyData)) : Sp := fun vs H Q _ => ∃ (B : Hp) (ds xs : List PyData), Ex B H ∧ ds.length = n ∧ DpAll K B vs ds ∧ F ds = some xs ∧
  ∀ p us B' H', Gr B H B' H' → H p = none → H' p = some (.lst us) → B' p = none → DpAll K B' us xs → Q (.ref p) H'
/-- the first argument is a list that may change -/
def spM (K : PySem.W.Frag) (n : Nat) (F : List PyData → List PyData → Option (PyData × List PyData)) : Sp := fun vs H Q _ => ∃ (B : Hp) (p : Addr) (us ws : List V) (xs ds : List PyData) (d : PyData) (ys : List PyData), vs = .ref p :: ws ∧ Ex B H ∧ B p = none ∧ H p = some (.lst us) ∧ DpAll K B us xs ∧
  ds.length + 1 = n ∧ DpAll K B ws ds ∧ F xs ds = some (d, ys) ∧ ∀ v us' B' H', Go (fun b => b = p) B H B' H' → Ex B' H' → B' p = none → H' p = some (.lst us') → DpAll K B' us' ys → Dp K B' v d → Q v H'
def spML (K : PySem.W.Frag) (n : Nat) (F : List PyData → List PyData → Option (List PyData × List PyData)) : Sp := fun vs H Q _ => ∃ (B : Hp) (p : Addr) (us ws : List V) (xs ds zs ys : List PyData), vs = .ref p :: ws ∧ Ex B H ∧ B p = none ∧ H p = some (.lst us) ∧ DpAll K B us xs ∧
  ds.length + 1 = n ∧ DpAll K B ws ds ∧ F xs ds = some (zs, ys) ∧ ∀ q ts us' B' H', Go (fun b => b = p) B H B' H' → Ex B' H' → B' p = none → H' p = some (.lst us') → DpAll K B' us' ys → H q = none → H' q = some (.lst ts) → B' q = none → DpAll K B' ts zs → Q (.ref q) H'
section
variable {K : PySem.W.Frag} {n : Nat} {ps : List Str}
theorem spF_len {F : List PyData → Option PyData} (hn : n = ps.length) : ∀ vs H Q E, spF K n F vs H Q E → vs.length = ps.length := fun vs H Q E h => by
  obtain ⟨B, ds, d, _, hl, hd, _⟩ := h
  rw [DpAll.length hd, hl, hn]
theorem spL_len {F : List PyData → Option (List PyData)} (hn : n = ps.length) : ∀ vs H Q E, spL K n F vs H Q E → vs.length = ps.length := fun vs H Q E h => by
  obtain ⟨B, ds, d, _, hl, hd, _⟩ := h
  rw [DpAll.length hd, hl, hn]
theorem spM_len {F : List PyData → List PyData → Option (PyData × List PyData)} (hn : n = ps.length) : ∀ vs H Q E, spM K n F vs H Q E → vs.length = ps.length := fun vs H Q E h => by
  obtain ⟨B, p, us, ws, xs, ds, d, ys, rfl, _, _, _, _, hl, hd, _⟩ := h
  rw [List.length_cons, DpAll.length hd, hl, hn]
theorem spML_len {F : List PyData → List PyData → Option (List PyData × List PyData)} (hn : n = ps.length) : ∀ vs H Q E, spML K n F vs H Q E → vs.length = ps.length := fun vs H Q E h => by
  obtain ⟨B, p, us, ws, xs, ds, d, ys, rfl, _, _, _, _, hl, hd, _⟩ := h
  rw [List.length_cons, DpAll.length hd, hl, hn]
end

/-! ### calls -/
def dCall (n : Nat) (F : List PyData → Option PyData) (dds : List PyData) (fl : Dn (List PyData)) : Dn PyData := dBind fl fun ds => if (ds ++ dds).length = n then dLift (F (ds ++ dds)) else fun _ => none
def dCallL (n : Nat) (F : List PyData → Option (List PyData)) (dds : List PyData) (fl : Dn (List PyData)) : Dn (List PyData) := dBind fl fun ds => if (ds ++ dds).length = n then dLift (F (ds ++ dds)) else fun _ => none
def ownB (e : En) (i : Nat) : Bool := match e[i]? with
  | some (.o _) => true
  | some (.p _) => true
  | _ => false
def dCallM {α : Type} (i n : Nat) (F : List PyData → List PyData → Option (α × List PyData)) (fl : Dn (List PyData)) : Dn α := fun e => if ownB e i = true then (match fl e with
  | none => none
  | some (ds, e1) => if ds.length + 1 = n then (match e1[i]? with
    | some (.o xs) => match F xs ds with
      | some (z, ys) => some (z, e1.set i (.o ys))
      | none => none
    | some (.p xs) => match F xs ds with
      | some (z, ys) => some (z, e1.set i (.p ys))
      | none => none
    | _ => none) else none) else none
theorem ownB_some {e : En} {i : Nat} (h : ownB e i = true) : ∃ s xs, e[i]? = some s ∧ s.own = some xs := by
  unfold ownB at h
  split at h
  · exact ⟨_, _, by assumption, rfl⟩
  · exact ⟨_, _, by assumption, rfl⟩
  · cases h
section
variable {K : PySem.W.Frag} {n : Nat} {ta : TA} {fl : Dn (List PyData)} {E : XK} {W : Wo} {σ : L2.St} {e : En} {B H : Hp}
theorem se_call {F : List PyData → Option PyData} {dvs : List V} {dds : List PyData} (hv : ∀ H, DpAll K H dvs dds) (h : SA K ta fl) : SE K (tCall (spF K n F) dvs E ta) (dCall n F dds fl) := fun W hW σ e B H a d e' h' Q q => by
  obtain ⟨ds, e1, h1, h2⟩ := dBind_some h'
  split at h2
  · rename_i hl
    obtain ⟨h3, rfl⟩ := dLift_some h2
    refine h W hW σ e B H a ds e' h1 _ fun vs B1 H1 a1 g1 d1 => ⟨B1, ds ++ dds, d, a1.ex, hl, d1.append (hv _), h3, fun v B2 H2 g2 hd => q v B2 H2 (a1.gr g2) (g1.trans (gx_gr g2)) hd⟩
  · cases h2
theorem sl_call {F : List PyData → Option (List PyData)} {dvs : List V} {dds : List PyData} (hv : ∀ H, DpAll K H dvs dds) (h : SA K ta fl) : SL K (tCall (spL K n F) dvs E ta) (dCallL n F dds fl) := fun W hW σ e B H a d e' h' Q q => by
  obtain ⟨ds, e1, h1, h2⟩ := dBind_some h'
  split at h2
  · rename_i hl
    obtain ⟨h3, rfl⟩ := dLift_some h2
    refine h W hW σ e B H a ds e' h1 _ fun vs B1 H1 a1 g1 d1 => ⟨B1, ds ++ dds, d, a1.ex, hl, d1.append (hv _), h3, fun p us B2 H2 g2 p0 hp pB hd => q p us B2 H2 (a1.gr g2) (g1.trans (gx_gr g2)) (g1.go.dm p p0) hp pB hd⟩
  · cases h2
/-- the list at a slot has changed, and new things stand -/
theorem At.step (a : At W σ e B H) {i : Nat} {s s' : Sl} {xs ys : List PyData} {p : Addr} {us : List V} {B' H' : Hp} (hi : e[i]? = some s) (hs : s.own = some xs) (hs' : s'.own = some ys) (hP : s.isP = s'.isP) (hp : σ[i]? = some (some (.ref p)))
    (g : Go (fun b => b = p) B H B' H') (x : Ex B' H') (hB : B' p = none) (hl : H' p = some (.lst us)) (hv : DpAll W.K B' us ys) : At W σ (e.set i s') B' H' ∧ Gx σ e B H (e.set i s') B' H' := by
  have old : ∀ (j : Nat) (t : Sl) zs, (e.set i s')[j]? = some t → t.own = some zs → ∃ t' zs', e[j]? = some t' ∧ t'.own = some zs' := fun j t zs h1 h2 => by
    rcases set_cases h1 with ⟨rfl, rfl, hlt⟩ | ⟨c, h⟩
    · exact ⟨s, xs, hi, hs⟩
    · exact ⟨t, zs, h, h2⟩
  refine ⟨⟨x, fun b hb => a.nm b (g.dm b hb), by rw [List.length_set]; exact a.len, fun j y h => ?_, fun j t zs h1 h2 => ?_, fun j k t u q zs ws h1 h2 h3 h4 h5 h6 => ?_, fun j b hb => ?_⟩, ⟨g.mono fun b hb => ⟨i, s, xs, hi, hs, by rw [hb]; exact hp⟩, fun b hb => ?_⟩⟩
  · rcases set_cases h with ⟨rfl, e1, hl⟩ | ⟨c, h⟩
    · subst e1
      cases hs'
    · obtain ⟨v, k1, k2⟩ := a.dat j y h
      exact ⟨v, k1, dp_mono g.hg k2⟩
  · rcases set_cases h1 with ⟨rfl, rfl, hlt⟩ | ⟨c, h⟩
    · rw [hs'] at h2
      cases h2
      obtain ⟨q, us', k1, k2, k3, k4, k5⟩ := a.own j s xs hi hs
      rw [hp] at k1
      cases k1
      exact ⟨p, us, hp, k2, hB, hl, hv⟩
    · obtain ⟨q, us', k1, k2, k3, k4, k5⟩ := a.own j t zs h h2
      have qp : ¬ q = p := fun z => by
        subst z
        exact c (a.sep j i t s q zs xs h h2 hi hs k1 hp)
      exact ⟨q, us', k1, k2, g.sp q qp k3 (by rw [k4]; exact fun z => nomatch z), g.fr q _ qp k4, dpa_mono g.hg k5⟩
  · obtain ⟨t1, z1, m1, m2⟩ := old j t zs h1 h2
    obtain ⟨t2, z2, m3, m4⟩ := old k u ws h3 h4
    exact a.sep j k t1 t2 q z1 z2 m1 m2 m3 m4 h5 h6
  · obtain ⟨⟨zs, k1⟩, k2⟩ := a.pin j b hb
    refine ⟨?_, k2⟩
    by_cases c : j = i
    · subst c
      rw [k1] at hi
      cases hi
      cases s' with
      | p ws => exact ⟨ws, getElem?_set_eq k1⟩
      | no => cases hP
      | d x => cases hP
      | o x => cases hP
    · exact ⟨zs, by rw [List.getElem?_set_ne (Ne.symm c)]; exact k1⟩
  · obtain ⟨j, t, zs, h1, h2, h3⟩ := hb
    obtain ⟨t', zs', k1, k2⟩ := old j t zs h1 h2
    exact ⟨j, t', zs', k1, k2, h3⟩
/-- the slot of a list that may change, behind the arguments -/
theorem own_at {i : Nat} {s : Sl} {xs : List PyData} (a : At W σ e B H) (hi : e[i]? = some s) (hs : s.own = some xs) : ∃ p us, σ[i]? = some (some (.ref p)) ∧ B p = none ∧ H p = some (.lst us) ∧ DpAll W.K B us xs := by
  obtain ⟨p, us, k1, k2, k3, k4, k5⟩ := a.own i s xs hi hs
  exact ⟨p, us, k1, k3, k4, k5⟩
theorem dCallM_some {α : Type} {i n : Nat} {F : List PyData → List PyData → Option (α × List PyData)} {fl : Dn (List PyData)} {e e' : En} {z : α} (h : dCallM i n F fl e = some (z, e')) :
    ∃ ds e1 s s' xs ys, ownB e i = true ∧ fl e = some (ds, e1) ∧ ds.length + 1 = n ∧ e1[i]? = some s ∧ s.own = some xs ∧ F xs ds = some (z, ys) ∧ s'.own = some ys ∧ s.isP = s'.isP ∧ e' = e1.set i s' := by
  unfold dCallM at h
  by_cases hob : ownB e i = true
  case neg =>
    rw [if_neg hob] at h
    cases h
  rw [if_pos hob] at h
  split at h
  · cases h
  rename_i ds e1 h1
  by_cases hl : ds.length + 1 = n
  · rw [if_pos hl] at h
    split at h
    · rename_i xs hx
      split at h
      · rename_i z' ys hF
        cases h
        exact ⟨ds, e1, _, .o ys, xs, ys, hob, h1, hl, hx, rfl, hF, rfl, rfl, rfl⟩
      · cases h
    · rename_i xs hx
      split at h
      · rename_i z' ys hF
        cases h
        exact ⟨ds, e1, _, .p ys, xs, ys, hob, h1, hl, hx, rfl, hF, rfl, rfl, rfl⟩
      · cases h
    · cases h
  · rw [if_neg hl] at h
    cases h
theorem se_callM {i : Nat} {F : List PyData → List PyData → Option (PyData × List PyData)} (h : SA K ta fl) : SE K (tCall (spM K n F) [] E (tCons (tVar i) ta)) (dCallM i n F fl) := fun W hW σ e B H a d e' h' Q q => by
  obtain ⟨ds, e1, s, s', xs, ys, h0, h1, hl, hi, hs, hF, hs', hP, rfl⟩ := dCallM_some h'
  obtain ⟨s0, xs0, i0, o0⟩ := ownB_some h0
  obtain ⟨p, us0, k1, _⟩ := own_at a i0 o0
  refine ⟨.ref p, k1, h W hW σ e B H a ds e1 h1 _ fun vs B1 H1 a1 g1 d1 => ?_⟩
  obtain ⟨p', us, k2, k3, k4, k5⟩ := own_at a1 hi hs
  rw [k1] at k2
  cases k2
  refine ⟨B1, p, us, vs, xs, ds, d, ys, by rw [List.append_nil], a1.ex, k3, k4, hW ▸ k5, hl, d1, hF, fun v us' B2 H2 g2 x2 z2 l2 d2 dv => ?_⟩
  obtain ⟨a2, gx⟩ := a1.step hi hs hs' hP k1 g2 x2 z2 l2 (hW ▸ d2)
  exact q v B2 H2 a2 (g1.trans gx) dv
theorem sl_callM {i : Nat} {F : List PyData → List PyData → Option (List PyData × List PyData)} (h : SA K ta fl) : SL K (tCall (spML K n F) [] E (tCons (tVar i) ta)) (dCallM i n F fl) := fun W hW σ e B H a d e' h' Q q => by
  obtain ⟨ds, e1, s, s', xs, ys, h0, h1, hl, hi, hs, hF, hs', hP, rfl⟩ := dCallM_some h'
  obtain ⟨s0, xs0, i0, o0⟩ := ownB_some h0
  obtain ⟨p, us0, k1, _⟩ := own_at a i0 o0
  refine ⟨.ref p, k1, h W hW σ e B H a ds e1 h1 _ fun vs B1 H1 a1 g1 d1 => ?_⟩
  obtain ⟨p', us, k2, k3, k4, k5⟩ := own_at a1 hi hs
  rw [k1] at k2
  cases k2
  refine ⟨B1, p, us, vs, xs, ds, d, ys, by rw [List.append_nil], a1.ex, k3, k4, hW ▸ k5, hl, d1, hF, fun r ts us' B2 H2 g2 x2 z2 l2 d2 r0 rl rB rd => ?_⟩
  obtain ⟨a2, gx⟩ := a1.step hi hs hs' hP k1 g2 x2 z2 l2 (hW ▸ d2)
  exact q r ts B2 H2 a2 (g1.trans gx) (g1.go.dm r r0) rl rB rd
end

/-! ### a def by its body -/
def init (ds : List PyData) (n : Nat) : En := ds.map .d ++ List.replicate n .no
def retD : Option Rs → Option PyData
  | some (.rt d _) => some d
  | some (.nx _) => some .none
  | some (.rl xs _) => some (.list xs)
  | _ => none
def fnD (n : Nat) (F : Ds) (ds : List PyData) : Option PyData := retD (F (init ds n))
def fnL (n : Nat) (F : Ds) (ds : List PyData) : Option (List PyData) := match F (init ds n) with
  | some (.rl xs _) => some xs
  | _ => none
def fnM (n : Nat) (F : Ds) (xs ds : List PyData) : Option (PyData × List PyData) := match F (.p xs :: init ds n) with
  | some (.rt d e) => match (e : En)[0]? with
    | some (Sl.p ys) => some (d, ys)
    | _ => none
  | some (.nx e) => match (e : En)[0]? with
    | some (Sl.p ys) => some (.none, ys)
    | _ => none
  | some (.rl zs e) => match (e : En)[0]? with
    | some (Sl.p ys) => some (.list zs, ys)
    | _ => none
  | _ => none
def fnML (n : Nat) (F : Ds) (xs ds : List PyData) : Option (List PyData × List PyData) := match F (.p xs :: init ds n) with
  | some (.rl zs e) => match (e : En)[0]? with
    | some (Sl.p ys) => some (zs, ys)
    | _ => none
  | _ => none
section
variable {K : PySem.W.Frag} {B H : Hp}
theorem start_get {N : List Str} {vs : List V} (i : Nat) (hi : i < vs.length) : (L2.start N vs)[i]? = some (some (vs[i]'hi)) := by
  unfold L2.start
  rw [List.getElem?_append_left (by rw [List.length_map]; exact hi), List.getElem?_map, List.getElem?_eq_getElem hi]
  rfl
theorem init_get {ds : List PyData} {n i : Nat} {s : Sl} (h : (init ds n)[i]? = some s) : (∃ d, ds[i]? = some d ∧ s = .d d) ∨ s = .no := by
  unfold init at h
  by_cases c : i < ds.length
  · rw [List.getElem?_append_left (by rw [List.length_map]; exact c), List.getElem?_map, List.getElem?_eq_getElem c] at h
    cases h
    exact .inl ⟨_, List.getElem?_eq_getElem c, rfl⟩
  · rw [List.getElem?_append_right (by rw [List.length_map]; omega)] at h
    exact .inr (List.eq_of_mem_replicate (List.mem_of_getElem? h))
theorem init_not_own {ds : List PyData} {n i : Nat} {s : Sl} {xs : List PyData} (h : (init ds n)[i]? = some s) (o : s.own = some xs) : False := by
  rcases init_get h with ⟨d, _, rfl⟩ | rfl <;> cases o
/-- the slots at a def's begin -/
theorem at_start {N : List Str} {vs : List V} {ds : List PyData} {n : Nat} (x : Ex B H) (hd : DpAll K B vs ds) (hn : N.length = ds.length + n) : At ⟨K, fun b => H b = none, fun _ => none⟩ (L2.start N vs) (init ds n) B H where
  ex := x
  nm := fun _ h => h
  len := by
    have := DpAll.length hd
    unfold L2.start init
    rw [List.length_append, List.length_append, List.length_map, List.length_map, List.length_replicate, List.length_replicate]
    omega
  dat := fun i y h => by
    rcases init_get h with ⟨d, hd', e⟩ | e
    · cases e
      obtain ⟨v, k1, k2⟩ := hd.get' hd'
      have hi := (List.getElem?_eq_some_iff.mp k1).1
      refine ⟨v, ?_, k2⟩
      rw [start_get i hi]
      rw [List.getElem?_eq_getElem hi] at k1
      exact congrArg some k1
    · cases e
  own := fun i s xs h o => (init_not_own h o).elim
  sep := fun i j s t p xs ys h o => (init_not_own h o).elim
  pin := fun i a h => nomatch h
theorem at_startM {N : List Str} {p : Addr} {us vs : List V} {xs ds : List PyData} {n : Nat} (x : Ex B H) (hB : B p = none) (hl : H p = some (.lst us)) (hx : DpAll K B us xs) (hd : DpAll K B vs ds) (hn : N.length = ds.length + 1 + n) :
    At ⟨K, fun b => H b = none ∨ b = p, fun i => if i = 0 then some p else none⟩ (L2.start N (.ref p :: vs)) (.p xs :: init ds n) B H where
  ex := x
  nm := fun _ h => .inl h
  len := by
    have := DpAll.length hd
    unfold L2.start init
    simp only [List.length_cons, List.length_append, List.length_map, List.length_replicate]
    omega
  dat := fun i y h => by
    cases i with
    | zero => cases h
    | succ i =>
      rcases init_get (i := i) h with ⟨d, hd', e⟩ | e
      · cases e
        obtain ⟨v, k1, k2⟩ := hd.get' hd'
        have hi := (List.getElem?_eq_some_iff.mp k1).1
        refine ⟨v, ?_, k2⟩
        rw [start_get (i + 1) (by rw [List.length_cons]; omega)]
        rw [List.getElem?_eq_getElem hi] at k1
        exact congrArg some k1
      · cases e
  own := fun i s ys h o => by
    cases i with
    | zero =>
      cases h
      cases o
      exact ⟨p, us, rfl, .inr rfl, hB, hl, hx⟩
    | succ i => exact (init_not_own (i := i) h o).elim
  sep := fun i j s t q ys zs h o h2 o2 _ _ => by
    cases i with
    | succ i => exact (init_not_own (i := i) h o).elim
    | zero =>
      cases j with
      | succ j => exact (init_not_own (i := j) h2 o2).elim
      | zero => rfl
  pin := fun i a h => by
    by_cases c : i = 0
    · subst c
      cases h
      exact ⟨⟨xs, rfl⟩, rfl⟩
    · simp only [if_neg c] at h
      cases h
theorem gr_of_go {B' H' : Hp} (g : Go (fun b => H b = none) B H B' H') (x : Ex B' H') : Gr B H B' H' :=
  ⟨g.hg, x, fun b o h => g.fr b o (fun z => by rw [z] at h; cases h) h, fun b h1 h2 => g.sp b h2 h1 h2⟩
variable {t : TS} {F : Ds} {N : List Str} {n m : Nat}
theorem body_F (h : SS K t F) (hn : N.length = m + n) {vs : List V} {Q : VK} {E : XK} (hs : spF K m (fnD n F) vs H Q E) : t { nx := fun _ H' => Q .non H', rt := Q } (L2.start N vs) H := by
  obtain ⟨B, ds, d, x, hl, hd, hF, q⟩ := hs
  have a := at_start x hd (by rw [hl]; exact hn)
  unfold fnD retD at hF
  split at hF
  · rename_i d' e' hr
    cases hF
    exact h _ rfl _ _ B H a _ hr _ fun v σ' B' H' a' g' dv => q v B' H' (gr_of_go g' a'.ex) dv
  · rename_i e' hr
    cases hF
    exact h _ rfl _ _ B H a _ hr _ fun σ' B' H' a' g' => q .non B' H' (gr_of_go g' a'.ex) .non
  · rename_i ys e' hr
    cases hF
    refine h _ rfl _ _ B H a _ hr _ fun p us σ' B' H' a' g' hM _ hp pB du => ?_
    exact q _ _ H' (gr_freeze pB hM (gr_of_go g' a'.ex) hp) (dp_freeze pB du)
  · cases hF
theorem body_L (h : SS K t F) (hn : N.length = m + n) {vs : List V} {Q : VK} {E : XK} (hs : spL K m (fnL n F) vs H Q E) : t { nx := fun _ H' => Q .non H', rt := Q } (L2.start N vs) H := by
  obtain ⟨B, ds, d, x, hl, hd, hF, q⟩ := hs
  have a := at_start x hd (by rw [hl]; exact hn)
  unfold fnL at hF
  split at hF
  · rename_i ys e' hr
    cases hF
    exact h _ rfl _ _ B H a _ hr _ fun p us σ' B' H' a' g' hM _ hp pB du => q p us B' H' (gr_of_go g' a'.ex) hM hp pB du
  · cases hF
theorem go_p {p : Addr} {B' H' : Hp} (g : Go (fun b => H b = none ∨ b = p) B H B' H') : Go (fun b => b = p) B H B' H' :=
  ⟨g.hg, fun b o hb h => g.fr b o (fun z => z.elim (fun z => by rw [z] at h; cases h) hb) h, g.dm, fun b hb h1 h2 => g.sp b (fun z => z.elim h2 hb) h1 h2⟩
theorem pin_at {W : Wo} {σ : L2.St} {e : En} {p : Addr} {ys : List PyData} (a : At W σ e B H) (hp : W.pn 0 = some p) (h0 : e[0]? = some (.p ys)) : ∃ us, B p = none ∧ H p = some (.lst us) ∧ DpAll W.K B us ys := by
  obtain ⟨_, k2⟩ := a.pin 0 p hp
  obtain ⟨p', us, k1, _, k3, k4, k5⟩ := a.own 0 _ ys h0 rfl
  rw [k2] at k1
  cases k1
  exact ⟨us, k3, k4, k5⟩
theorem body_M (h : SS K t F) (hn : N.length = m + n) {vs : List V} {Q : VK} {E : XK} (hs : spM K m (fnM n F) vs H Q E) : t { nx := fun _ H' => Q .non H', rt := Q } (L2.start N vs) H := by
  obtain ⟨B, p, us, ws, xs, ds, d, ys, rfl, x, hB, hl, hx, hm, hd, hF, q⟩ := hs
  have a := at_startM (N := N) (n := n) x hB hl hx hd (by rw [hm]; exact hn)
  unfold fnM at hF
  split at hF
  · rename_i d' e' hr
    split at hF
    · rename_i ys' h0
      cases hF
      refine h _ rfl _ _ B H a _ hr _ fun v σ' B' H' a' g' dv => ?_
      obtain ⟨us', k1, k2, k3⟩ := pin_at a' rfl h0
      exact q v us' B' H' (go_p g') a'.ex k1 k2 k3 dv
    · cases hF
  · rename_i e' hr
    split at hF
    · rename_i ys' h0
      cases hF
      refine h _ rfl _ _ B H a _ hr _ fun σ' B' H' a' g' => ?_
      obtain ⟨us', k1, k2, k3⟩ := pin_at a' rfl h0
      exact q .non us' B' H' (go_p g') a'.ex k1 k2 k3 .non
    · cases hF
  · rename_i zs e' hr
    split at hF
    · rename_i ys' h0
      cases hF
      refine h _ rfl _ _ B H a _ hr _ fun r rs σ' B' H' a' g' hM hpn hp pB du => ?_
      obtain ⟨us', k1, k2, k3⟩ := pin_at a' rfl h0
      have rp : r ≠ p := fun z => hpn 0 (by rw [z]; rfl)
      have hr0 : H r = none := hM.elim id fun z => absurd z rp
      have g2 : Go (fun b => b = p) B H (upd B' r (.lst rs)) H' := ⟨(go_p g').hg.trans (Ex.new pB), (go_p g').fr, (go_p g').dm, fun b hb h1 h2 => by
        have c : b ≠ r := fun z => by
          subst z
          exact h2 hr0
        rw [upd_ne c]
        exact (go_p g').sp b hb h1 h2⟩
      refine q _ us' _ H' g2 (fun b o hb => ?_) (by rw [upd_ne rp.symm]; exact k1) k2 (dpa_mono (Ex.new pB) k3) (.lst (sq_of upd_same) (dpa_mono (Ex.new pB) du))
      by_cases c : b = r
      · subst c
        rw [upd_same] at hb
        cases hb
        exact hp
      · rw [upd_ne c] at hb
        exact a'.ex b o hb
    · cases hF
  · cases hF
theorem body_ML (h : SS K t F) (hn : N.length = m + n) {vs : List V} {Q : VK} {E : XK} (hs : spML K m (fnML n F) vs H Q E) : t { nx := fun _ H' => Q .non H', rt := Q } (L2.start N vs) H := by
  obtain ⟨B, p, us, ws, xs, ds, d, ys, rfl, x, hB, hl, hx, hm, hd, hF, q⟩ := hs
  have a := at_startM (N := N) (n := n) x hB hl hx hd (by rw [hm]; exact hn)
  unfold fnML at hF
  split at hF
  · rename_i zs e' hr
    split at hF
    · rename_i ys' h0
      cases hF
      refine h _ rfl _ _ B H a _ hr _ fun r rs σ' B' H' a' g' hM hpn hp pB du => ?_
      obtain ⟨us', k1, k2, k3⟩ := pin_at a' rfl h0
      have rp : r ≠ p := fun z => hpn 0 (by rw [z]; rfl)
      have hr0 : H r = none := hM.elim id fun z => absurd z rp
      exact q r rs us' B' H' (go_p g') a'.ex k1 k2 k3 hr0 hp pB du
    · cases hF
  · cases hF
end
end Fd
end

section
set_option Elab.async false
set_option linter.all false
set_option maxRecDepth 100000
set_option maxHeartbeats 1000000
/-! Walks by meaning 6: operators and built-ins over data. -/
namespace Fd
open PySem PySem.Spec PyProof.Rows L2 Evl Tb

/-! ### list + list, whatever is known of them -/
theorem cat_any (l : Addr) (items : Array Value) (n : Nat) (b : Addr) (items2 : Array Value) (n2 : Nat) (d1 d2 : Option Addr) (s1 s2 : Array (Option Value)) (hc0 : items.size + items2.size ≤ sizeLine) :
    Meets (Builtin.«list.__add__» ⟨[.ref l, .ref b], []⟩) (fun _ R s => s.heap.get? l = some { cls := .type "list", dict := d1, data := .seq items n, slots := s1 } ∧ s.heap.get? b = some { cls := .type "list", dict := d2, data := .seq items2 n2, slots := s2 } ∧ R (.ok (.ret (Value.ref s.heap.objs.size))) { s with heap := s.heap.push { cls := Value.type "list", data := Data.seq (items ++ items2) }, toks := s.toks }) :=
  .of_wp fun prog w A R s h => by
    obtain ⟨hp, g, d, tk, os⟩ := s; obtain ⟨hl, hb, h⟩ := h
    have f1 := AutoSeq1.idx_int; have f2 := AutoSeq1.sub_tuple_tuple; have f3 := AutoSeq1.sub_list_list; have f4 := AutoSeq1.sub_tuple_list; have f5 := AutoSeq1.sub_list_tuple
    wp_walk using AutoSeq1.wpAny_loadPart' hl, AutoSeq1.wpAny_loadPart' hb
    exact ⟨_, rfl, h⟩
def rCatL (K : PySem.W.Frag) : R2 := fun x y H Q => ∃ l b xs zs, x = .ref l ∧ y = .ref b ∧ SqL K H l xs ∧ SqL K H b zs ∧ xs.length + zs.length ≤ sizeLine ∧ ∀ p, H p = none → Q (.ref p) (upd H p (.lst (xs ++ zs)))
theorem op_catL {X : Cx} : OpR X (binaryOp .Add) (rCatL X.K) := by
  intro pins s σ H x y v u Q I rx ry h
  obtain ⟨l, b, xs, zs, rfl, rfl, hH, hB, hz, q⟩ := h
  cases rx
  cases ry
  obtain ⟨its, r, ⟨⟨c1, dd1, da1, sl1⟩, n1, ho1, hc1, hd1, hs1⟩, z1⟩ := I.list hH
  obtain ⟨its2, r2, ⟨⟨c2, dd2, da2, sl2⟩, n2, ho2, hc2, hd2, hs2⟩, z2⟩ := I.list hB
  simp only at hc1 hs1 hc2 hs2
  subst hc1 hs1 hc2 hs2
  have e1 := r.length
  have e2 := r2.length
  refine PySem.concat_meets ⟨_, ho1, rfl⟩ ⟨_, ho2, rfl⟩ noFill_list_add seq_list_add F.slot_list_add F.entry_list_add (F.args_list_add_2 _ _) (cat_any l its.toArray n1 b its2.toArray n2 dd1 dd2 sl1 sl2 (by rw [List.size_toArray, List.size_toArray]; omega)) ⟨ho1, ho2, ?_⟩
  have ea : its.toArray ++ its2.toArray = (its ++ its2).toArray := by simp
  rw [ea]
  exact ⟨.ref _, _, I.lnew (t' := s.toks) (r.append r2) (by rw [List.length_append]; omega), rfl, q _ I.fresh⟩
def rAddS : R2 := fun x y H Q => ∃ i j : Str, x = .str i ∧ y = .str j ∧ i.length + j.length ≤ sizeLine ∧ Q (.str (i ++ j)) H
/-- + of ints, lists, tuples, texts -/
def rAddU (K : PySem.W.Frag) : R2 := fun x y H Q => rI0 (fun i j => .int (i + j)) x y H Q ∨ rCatL K x y H Q ∨ rCatA K x y H Q ∨ rAddS x y H Q
theorem op_addU {X : Cx} : OpR X (binaryOp .Add) (rAddU X.K) := by
  intro pins s σ H x y v u Q I rx ry h
  rcases h with h | h | h | h
  · exact op_add pins s σ H x y v u Q I rx ry h
  · exact op_catL pins s σ H x y v u Q I rx ry h
  · exact op_catA pins s σ H x y v u Q I rx ry h
  · exact op_add_str pins s σ H x y v u Q I rx ry h
def addD : PyData → PyData → Option PyData
  | .int i, .int j => some (.int (i + j))
  | .list xs, .list ys => if xs.length + ys.length ≤ 100000 then some (.list (xs ++ ys)) else none
  | .tuple xs, .tuple ys => if xs.length + ys.length ≤ 100000 then some (.tuple (xs ++ ys)) else none
  | .str x, .str y => if x.length + y.length ≤ 100000 then some (.str (x ++ y)) else none
  | _, _ => none
def addL : PyData → PyData → Option (List PyData)
  | .list xs, .list ys => if xs.length + ys.length ≤ 100000 then some (xs ++ ys) else none
  | _, _ => none
section
variable {K : PySem.W.Frag} {B : Hp}
theorem rf_add (x y z : PyData) (h : addD x y = some z) : RD K (rAddU K) x y B z := by
  unfold addD at h
  split at h
  · cases h
    exact fun a b H1 e hx hy Q q => .inl ⟨_, _, hx.int_of, hy.int_of, q _ B H1 (.refl e) (.int _)⟩
  · rename_i xs ys
    split at h
    · rename_i hz
      cases h
      refine fun a b H1 e hx hy Q q => .inr (.inl ?_)
      obtain ⟨p, us, rfl, h1, h2⟩ := hx.lst_of
      obtain ⟨p2, ws, rfl, h3, h4⟩ := hy.lst_of
      exact ⟨p, p2, us, ws, rfl, rfl, ex_l e h1, ex_l e h3, sz_of (by rw [DpAll.length h2, DpAll.length h4]; exact hz), fun r hr => q _ _ _ (Gr.new e hr) (.lst (sq_of upd_same) (dpa_mono (Ex.new (fresh_back e hr)) (h2.append h4)))⟩
    · cases h
  · rename_i xs ys
    split at h
    · rename_i hz
      cases h
      exact fun a b H1 e hx hy Q q => .inr (.inr (.inl (rd_catA hz a b H1 e hx hy Q q)))
    · cases h
  · rename_i xs ys
    split at h
    · rename_i hz
      cases h
      exact fun a b H1 e hx hy Q q => .inr (.inr (.inr ⟨xs, ys, hx.str_of, hy.str_of, sz_of hz, q _ B H1 (.refl e) (.str _)⟩))
    · cases h
  · cases h
theorem sl_add {ta tb : TE} {f g : Dn PyData} (ha : SE K ta f) (hb : SE K tb g) : SL K (tOp (rAddU K) ta tb) (dBind f fun x => dBind g fun y => dLift (addL x y)) := fun W hW σ e B H a d e' h Q q => by
  obtain ⟨x, e1, h1, h⟩ := dBind_some h
  obtain ⟨y, e2, h2, h⟩ := dBind_some h
  obtain ⟨h3, rfl⟩ := dLift_some h
  refine ha W hW σ e B H a x e1 h1 _ fun v1 B1 H1 a1 g1 d1 => hb W hW σ e1 B1 H1 a1 y e' h2 _ fun v2 B2 H2 a2 g2 d2 => ?_
  unfold addL at h3
  split at h3
  · rename_i xs ys
    split at h3
    · rename_i hz
      cases h3
      obtain ⟨p, us, rfl, k1, k2⟩ := d1.lst_of
      obtain ⟨p2, ws, rfl, k3, k4⟩ := d2.lst_of
      refine .inr (.inl ⟨p, p2, us, ws, rfl, rfl, ex_l (g2.go.hg.trans a2.ex) k1, ex_l a2.ex k3, sz_of (by rw [DpAll.length k2, DpAll.length k4]; exact hz), fun r hr => ?_⟩)
      have gr : Gr B2 H2 B2 (upd H2 r (.lst (us ++ ws))) := Gr.mut a2.ex hr
      exact q r _ _ _ (a2.gr gr) ((g1.trans g2).trans (gx_gr gr)) (g1.go.dm r (g2.go.dm r hr)) upd_same (fresh_back a2.ex hr) ((dpa_mono g2.go.hg k2).append k4)
    · cases h3
  · cases h3
end

/-! ### the other operators -/
def int2 (C : Int → Int → Prop) [∀ i j, Decidable (C i j)] (g : Int → Int → PyData) : PyData → PyData → Option PyData
  | .int i, .int j => if C i j then some (g i j) else none
  | _, _ => none
def subD := int2 (fun _ _ => True) fun i j => .int (i - j)
def modD := int2 (fun _ j => 0 < j) fun i j => .int (i % j)
instance (i j : Int) : Decidable (CDivW i j) := inferInstanceAs (Decidable (0 < j ∧ j.natAbs.log2 < 9000))
instance (i j : Int) : Decidable (CMulW i j) := inferInstanceAs (Decidable (i.natAbs.log2 + j.natAbs.log2 < 1000000))
instance (i j : Int) : Decidable (CMul i j) := inferInstanceAs (Decidable ((-(2 ^ 64) < i ∧ i < 2 ^ 64) ∨ (-(2 ^ 64) < j ∧ j < 2 ^ 64)))
instance (i j : Int) : Decidable (CPow i j) := inferInstanceAs (Decidable (0 ≤ j ∧ j ≤ 1000000 ∧ i.natAbs < 2 ^ 64))
def divD := int2 CDivW fun i j => .int (i / j)
def powD := int2 CPow fun i j => .int (i ^ j.toNat)
def andD := int2 (fun _ _ => True) fun i j => .int (Builtin.bitAnd i j)
def shlD := int2 CPow fun i j => .int (i * 2 ^ j.toNat)
def ltI := int2 (fun _ _ => True) fun i j => .bool (decide (i < j))
def rMulU (K : PySem.W.Frag) : R2 := fun x y H Q => rI CMul (fun i j => .int (i * j)) x y H Q ∨ rI CMulW (fun i j => .int (i * j)) x y H Q ∨ rRepA K x y H Q
theorem op_mulU {X : Cx} : OpR X (binaryOp .Mult) (rMulU X.K) := by
  intro pins s σ H x y v u Q I rx ry h
  rcases h with h | h | h
  · exact op_mul pins s σ H x y v u Q I rx ry h
  · exact op_mulW pins s σ H x y v u Q I rx ry h
  · exact op_repA pins s σ H x y v u Q I rx ry h
def mulD : PyData → PyData → Option PyData
  | .int i, .int j => if CMul i j ∨ CMulW i j then some (.int (i * j)) else none
  | .tuple xs, .int k => if xs ≠ [] ∧ 0 ≤ k ∧ k ≤ 1000 ∧ xs.length ≤ 1000 then some (.tuple (List.replicate k.toNat xs).flatten) else none
  | _, _ => none
section
variable {K : PySem.W.Frag} {B : Hp}
theorem rf_int0 {g : Int → Int → V} {gd : Int → Int → PyData} (hg : ∀ i j B, Dp K B (g i j) (gd i j)) (x y z : PyData) (h : int2 (fun _ _ => True) gd x y = some z) : RD K (rI0 g) x y B z := by
  unfold int2 at h
  split at h
  · rw [if_pos trivial] at h
    cases h
    exact fun a b H1 e hx hy Q q => ⟨_, _, hx.int_of, hy.int_of, q _ B H1 (.refl e) (hg _ _ _)⟩
  · cases h
theorem rf_intC {C : Int → Int → Prop} [∀ i j, Decidable (C i j)] {g : Int → Int → V} {gd : Int → Int → PyData} (hg : ∀ i j B, Dp K B (g i j) (gd i j)) (x y z : PyData) (h : int2 C gd x y = some z) : RD K (rI C g) x y B z := by
  unfold int2 at h
  split at h
  · split at h
    · rename_i hc
      cases h
      exact fun a b H1 e hx hy Q q => ⟨_, _, hx.int_of, hy.int_of, hc, q _ B H1 (.refl e) (hg _ _ _)⟩
    · cases h
  · cases h
theorem rf_mul (x y z : PyData) (h : mulD x y = some z) : RD K (rMulU K) x y B z := by
  unfold mulD at h
  split at h
  · split at h
    · rename_i hc
      cases h
      exact fun a b H1 e hx hy Q q => hc.elim (fun hc => .inl ⟨_, _, hx.int_of, hy.int_of, hc, q _ B H1 (.refl e) (.int _)⟩) fun hc => .inr (.inl ⟨_, _, hx.int_of, hy.int_of, hc, q _ B H1 (.refl e) (.int _)⟩)
    · cases h
  · split at h
    · rename_i hc
      cases h
      exact fun a b H1 e hx hy Q q => .inr (.inr (rd_repA hc.1 hc.2.1 hc.2.2.1 hc.2.2.2 a b H1 e hx hy Q q))
    · cases h
  · cases h
end
/-! ### comparisons: ints and texts -/
def rLtU : R2 := fun x y H Q => rI0 (fun i j => .bl (decide (i < j))) x y H Q ∨ ∃ i j : Str, x = .str i ∧ y = .str j ∧ Q (.bl (decide (i.cps.toList < j.cps.toList))) H
def rGtU : R2 := fun x y H Q => rI0 (fun i j => .bl (decide (j < i))) x y H Q ∨ ∃ i j : Str, x = .str i ∧ y = .str j ∧ Q (.bl (decide (j.cps.toList < i.cps.toList))) H
def rLeU : R2 := fun x y H Q => rI0 (fun i j => .bl (decide (i ≤ j))) x y H Q ∨ ∃ i j : Str, x = .str i ∧ y = .str j ∧ Q (.bl (!decide (j.cps.toList < i.cps.toList))) H
def rGeU : R2 := fun x y H Q => rI0 (fun i j => .bl (decide (j ≤ i))) x y H Q ∨ ∃ i j : Str, x = .str i ∧ y = .str j ∧ Q (.bl (!decide (i.cps.toList < j.cps.toList))) H
section
variable {X : Cx}
theorem op_ltU : OpR X (compareOp .Lt) rLtU := fun pins s σ H x y v u Q I rx ry h => h.elim (op_lt pins s σ H x y v u Q I rx ry) (op_lt_str pins s σ H x y v u Q I rx ry)
theorem op_gtU : OpR X (compareOp .Gt) rGtU := fun pins s σ H x y v u Q I rx ry h => h.elim (op_gt pins s σ H x y v u Q I rx ry) (op_gt_str pins s σ H x y v u Q I rx ry)
theorem op_leU : OpR X (compareOp .LtE) rLeU := fun pins s σ H x y v u Q I rx ry h => h.elim (op_le pins s σ H x y v u Q I rx ry) (op_le_str pins s σ H x y v u Q I rx ry)
theorem op_geU : OpR X (compareOp .GtE) rGeU := fun pins s σ H x y v u Q I rx ry h => h.elim (op_ge pins s σ H x y v u Q I rx ry) (op_ge_str pins s σ H x y v u Q I rx ry)
end
def cmpD (p : Int → Int → Bool) (q : Str → Str → Bool) : PyData → PyData → Option PyData
  | .int i, .int j => some (.bool (p i j))
  | .str i, .str j => some (.bool (q i j))
  | _, _ => none
def ltD := cmpD (fun i j => decide (i < j)) fun i j => decide (i.cps.toList < j.cps.toList)
def gtD := cmpD (fun i j => decide (j < i)) fun i j => decide (j.cps.toList < i.cps.toList)
def leD := cmpD (fun i j => decide (i ≤ j)) fun i j => !decide (j.cps.toList < i.cps.toList)
def geD := cmpD (fun i j => decide (j ≤ i)) fun i j => !decide (i.cps.toList < j.cps.toList)
def eqD (x y : PyData) : Option PyData := if (SeqAt.shaped x && SeqAt.shaped y) = true then some (.bool (PyData.eqv x y)) else none
def neD (x y : PyData) : Option PyData := if (SeqAt.shaped x && SeqAt.shaped y) = true then some (.bool (!PyData.eqv x y)) else none
def isNonD' (x y : PyData) : Option PyData := match y with
  | .none => some (.bool (isNonD x))
  | _ => none
def notNonD (x y : PyData) : Option PyData := match y with
  | .none => some (.bool (!isNonD x))
  | _ => none
def isBlD (x y : PyData) : Option PyData := match x, y with
  | .bool a, .bool b => some (.bool (decide (a = b)))
  | _, _ => none
def notBlD (x y : PyData) : Option PyData := match x, y with
  | .bool a, .bool b => some (.bool (!decide (a = b)))
  | _, _ => none
/-- in a list -/
def inD (neg : Bool) (x y : PyData) : Option PyData := match y with
  | .list ds => if (SeqAt.shaped x && SeqAt.shaped (.list ds)) = true then some (.bool (if neg then !(ds.any fun z => PyData.eqv z x) else ds.any fun z => PyData.eqv z x)) else none
  | _ => none
def ixD (x y : PyData) : Option PyData := match y with
  | .int i => match x with
    | .list xs => atI xs i
    | .tuple xs => atI xs i
    | .str w => if w.length ≤ 100000 then (atI w.cps.toList i).map fun c => .str ⟨#[c]⟩ else none
    | _ => none
  | _ => none
section
variable {K : PySem.W.Frag} {B : Hp}
theorem rf_cmp {r : R2} {p : Int → Int → Bool} {qs : Str → Str → Bool} (h1 : ∀ i j H Q, Q (.bl (p i j)) H → r (.int i) (.int j) H Q) (h2 : ∀ i j H Q, Q (.bl (qs i j)) H → r (.str i) (.str j) H Q) (x y z : PyData) (h : cmpD p qs x y = some z) : RD K r x y B z := by
  unfold cmpD at h
  split at h
  · cases h
    intro a b H1 e hx hy Q q
    rw [hx.int_of, hy.int_of]
    exact h1 _ _ H1 Q (q _ B H1 (.refl e) (.bl _))
  · cases h
    intro a b H1 e hx hy Q q
    rw [hx.str_of, hy.str_of]
    exact h2 _ _ H1 Q (q _ B H1 (.refl e) (.bl _))
  · cases h
theorem rf_lt (x y z : PyData) (h : ltD x y = some z) : RD K rLtU x y B z := rf_cmp (fun i j H Q q => .inl ⟨i, j, rfl, rfl, q⟩) (fun i j H Q q => .inr ⟨i, j, rfl, rfl, q⟩) x y z h
theorem rf_gt (x y z : PyData) (h : gtD x y = some z) : RD K rGtU x y B z := rf_cmp (fun i j H Q q => .inl ⟨i, j, rfl, rfl, q⟩) (fun i j H Q q => .inr ⟨i, j, rfl, rfl, q⟩) x y z h
theorem rf_le (x y z : PyData) (h : leD x y = some z) : RD K rLeU x y B z := rf_cmp (fun i j H Q q => .inl ⟨i, j, rfl, rfl, q⟩) (fun i j H Q q => .inr ⟨i, j, rfl, rfl, q⟩) x y z h
theorem rf_ge (x y z : PyData) (h : geD x y = some z) : RD K rGeU x y B z := rf_cmp (fun i j H Q q => .inl ⟨i, j, rfl, rfl, q⟩) (fun i j H Q q => .inr ⟨i, j, rfl, rfl, q⟩) x y z h
theorem rf_eq (x y z : PyData) (h : eqD x y = some z) : RD K (rEqD K) x y B z := by
  unfold eqD at h
  split at h
  · rename_i hc
    rw [Bool.and_eq_true] at hc
    cases h
    exact rd_eqD hc.1 hc.2
  · cases h
theorem rf_ne (x y z : PyData) (h : neD x y = some z) : RD K (rNeD K) x y B z := by
  unfold neD at h
  split at h
  · rename_i hc
    rw [Bool.and_eq_true] at hc
    cases h
    exact rd_neD hc.1 hc.2
  · cases h
theorem rf_isN (x y z : PyData) (h : isNonD' x y = some z) : RD K (fun x y H Q => y = .non ∧ Q (.bl (decide (x = .non))) H) x y B z := by
  unfold isNonD' at h
  split at h
  · cases h
    exact rd_isN
  · cases h
theorem rf_notN (x y z : PyData) (h : notNonD x y = some z) : RD K (fun x y H Q => y = .non ∧ Q (.bl (!decide (x = .non))) H) x y B z := by
  unfold notNonD at h
  split at h
  · cases h
    exact rd_notN
  · cases h
theorem rf_isBl (x y z : PyData) (h : isBlD x y = some z) : RD K rIsB x y B z := by
  unfold isBlD at h
  split at h
  · cases h
    exact rd_isBl
  · cases h
theorem rf_notBl (x y z : PyData) (h : notBlD x y = some z) : RD K rNotB x y B z := by
  unfold notBlD at h
  split at h
  · cases h
    exact rd_notBl
  · cases h
theorem rf_in (x y z : PyData) (h : inD false x y = some z) : RD K (rInD K) x y B z := by
  unfold inD at h
  split at h
  · rename_i ds
    split at h
    · rename_i hc
      rw [Bool.and_eq_true] at hc
      cases h
      exact fun a b H1 e hx hy Q q => ⟨x, ds, dp_mono e hx, dp_mono e hy, hc.1, hc.2, q _ B H1 (.refl e) (.bl _)⟩
    · cases h
  · cases h
theorem rf_notIn (x y z : PyData) (h : inD true x y = some z) : RD K (rNotInD K) x y B z := by
  unfold inD at h
  split at h
  · rename_i ds
    split at h
    · rename_i hc
      rw [Bool.and_eq_true] at hc
      cases h
      exact fun a b H1 e hx hy Q q => ⟨x, ds, dp_mono e hx, dp_mono e hy, hc.1, hc.2, q _ B H1 (.refl e) (.bl _)⟩
    · cases h
  · cases h
theorem rf_ix (x y z : PyData) (h : ixD x y = some z) : RD K (rIx K) x y B z := by
  unfold ixD at h
  split at h
  · rename_i i
    split at h
    · intro a b H1 e hx hy Q q
      rcases rd_ix (K := K) (b := true) h a b H1 e hx hy Q q with k | k
      · exact .inl k
      · exact .inr (.inl k)
    · intro a b H1 e hx hy Q q
      rcases rd_ix (K := K) (b := false) h a b H1 e hx hy Q q with k | k
      · exact .inl k
      · exact .inr (.inl k)
    · split at h
      · rename_i w hw
        obtain ⟨c, hc, rfl⟩ := Option.map_eq_some_iff.mp h
        exact fun a b H1 e hx hy Q q => .inr (.inr ⟨w, i, c, hx.str_of, hy.int_of, sz_of hw, hc, q _ B H1 (.refl e) (.str _)⟩)
      · cases h
    · cases h
  · cases h
theorem rf_neg {x z : PyData} (h : (match x with | .int i => some (PyData.int (-i)) | _ => none) = some z) : RUD K (rU fun i => .int (-i)) x B z := by
  split at h
  · cases h
    exact rud_neg
  · cases h
end
def negD : PyData → Option PyData
  | .int i => some (.int (-i))
  | _ => none
section
variable {K : PySem.W.Frag} {ta tb te tc : TE} {f g k : Dn PyData}
theorem se_add (ha : SE K ta f) (hb : SE K tb g) : SE K (tOp (rAddU K) ta tb) (dOp addD f g) := se_op (fun B => rf_add) ha hb
theorem se_mul (ha : SE K ta f) (hb : SE K tb g) : SE K (tOp (rMulU K) ta tb) (dOp mulD f g) := se_op (fun B => rf_mul) ha hb
theorem se_sub (ha : SE K ta f) (hb : SE K tb g) : SE K (tOp (rI0 fun i j => .int (i - j)) ta tb) (dOp subD f g) := se_op (fun B => rf_int0 fun _ _ _ => .int _) ha hb
theorem se_bitand (ha : SE K ta f) (hb : SE K tb g) : SE K (tOp (rI0 fun i j => .int (Builtin.bitAnd i j)) ta tb) (dOp andD f g) := se_op (fun B => rf_int0 fun _ _ _ => .int _) ha hb
theorem se_mod (ha : SE K ta f) (hb : SE K tb g) : SE K (tOp (rI (fun _ j => 0 < j) fun i j => .int (i % j)) ta tb) (dOp modD f g) := se_op (fun B => rf_intC fun _ _ _ => .int _) ha hb
theorem se_div (ha : SE K ta f) (hb : SE K tb g) : SE K (tOp (rI CDivW fun i j => .int (i / j)) ta tb) (dOp divD f g) := se_op (fun B => rf_intC fun _ _ _ => .int _) ha hb
theorem se_pow (ha : SE K ta f) (hb : SE K tb g) : SE K (tOp (rI CPow fun i j => .int (i ^ j.toNat)) ta tb) (dOp powD f g) := se_op (fun B => rf_intC fun _ _ _ => .int _) ha hb
theorem se_shl (ha : SE K ta f) (hb : SE K tb g) : SE K (tOp (rI CPow fun i j => .int (i * 2 ^ j.toNat)) ta tb) (dOp shlD f g) := se_op (fun B => rf_intC fun _ _ _ => .int _) ha hb
theorem se_lt (ha : SE K ta f) (hb : SE K tb g) : SE K (tOp rLtU ta tb) (dOp ltD f g) := se_op (fun B => rf_lt) ha hb
theorem se_gt (ha : SE K ta f) (hb : SE K tb g) : SE K (tOp rGtU ta tb) (dOp gtD f g) := se_op (fun B => rf_gt) ha hb
theorem se_le (ha : SE K ta f) (hb : SE K tb g) : SE K (tOp rLeU ta tb) (dOp leD f g) := se_op (fun B => rf_le) ha hb
theorem se_ge (ha : SE K ta f) (hb : SE K tb g) : SE K (tOp rGeU ta tb) (dOp geD f g) := se_op (fun B => rf_ge) ha hb
theorem se_eq (ha : SE K ta f) (hb : SE K tb g) : SE K (tOp (rEqD K) ta tb) (dOp eqD f g) := se_op (fun B => rf_eq) ha hb
theorem se_ne (ha : SE K ta f) (hb : SE K tb g) : SE K (tOp (rNeD K) ta tb) (dOp neD f g) := se_op (fun B => rf_ne) ha hb
theorem se_isN (ha : SE K ta f) (hb : SE K tb g) : SE K (tOp (fun x y H Q => y = .non ∧ Q (.bl (decide (x = .non))) H) ta tb) (dOp isNonD' f g) := se_op (fun B => rf_isN) ha hb
theorem se_notN (ha : SE K ta f) (hb : SE K tb g) : SE K (tOp (fun x y H Q => y = .non ∧ Q (.bl (!decide (x = .non))) H) ta tb) (dOp notNonD f g) := se_op (fun B => rf_notN) ha hb
theorem se_isBl (ha : SE K ta f) (hb : SE K tb g) : SE K (tOp rIsB ta tb) (dOp isBlD f g) := se_op (fun B => rf_isBl) ha hb
theorem se_notBl (ha : SE K ta f) (hb : SE K tb g) : SE K (tOp rNotB ta tb) (dOp notBlD f g) := se_op (fun B => rf_notBl) ha hb
theorem se_in (ha : SE K ta f) (hb : SE K tb g) : SE K (tOp (rInD K) ta tb) (dOp (inD false) f g) := se_op (fun B => rf_in) ha hb
theorem se_notIn (ha : SE K ta f) (hb : SE K tb g) : SE K (tOp (rNotInD K) ta tb) (dOp (inD true) f g) := se_op (fun B => rf_notIn) ha hb
theorem se_ix (ha : SE K ta f) (hb : SE K tb g) : SE K (tOp (rIx K) ta tb) (dOp ixD f g) := se_op (fun B => rf_ix) ha hb
theorem se_neg (ha : SE K ta f) : SE K (tUn (rU fun i => .int (-i)) ta) (dUn negD f) := se_un (fun B x z h => by
  unfold negD at h
  split at h
  · cases h
    exact rud_neg
  · cases h) ha
/-- a chain of two comparisons -/
def dChain (F G : PyData → PyData → Option PyData) (f g k : Dn PyData) : Dn PyData := dBind f fun x => dBind g fun y => dBind (dLift (F x y)) fun z => match z with
  | .bool true => dBind k fun w => dLift (G y w)
  | .bool false => dK (.bool false)
  | _ => fun _ => none
end
end Fd
end

section
set_option Elab.async false
set_option linter.all false
set_option maxRecDepth 100000
set_option maxHeartbeats 1000000
/-! Walks by meaning 7: chains, slices, built-ins, lists of one's own. -/
namespace Fd
open PySem PySem.Spec PyProof.Rows L2 Evl Tb

section
variable {K : PySem.W.Frag} {ta tb te tc : TE} {f g k : Dn PyData} {B : Hp}
theorem se_chain {r r' : R2} {F G : PyData → PyData → Option PyData} (hr : ∀ B x y z, F x y = some z → RD K r x y B z) (hr' : ∀ B x y z, G x y = some z → RD K r' x y B z) (ha : SE K ta f) (hb : SE K tb g) (hc : SE K tc k) :
    SE K (tChain r r' ta tb tc) (dChain F G f g k) := fun W hW σ e B H a d e' h Q q => by
  obtain ⟨x, e1, h1, k1⟩ := dBind_some h
  obtain ⟨y, e2, h2, k2⟩ := dBind_some k1
  obtain ⟨z, e3, h3', k3⟩ := dBind_some k2
  obtain ⟨h3, rfl⟩ := dLift_some h3'
  clear h k1 k2
  refine ha W hW σ e B H a x e1 h1 _ fun v1 B1 H1 a1 g1 d1 => hb W hW σ e1 B1 H1 a1 y e3 h2 _ fun v2 B2 H2 a2 g2 d2 => ?_
  refine hr B2 x y z h3 v1 v2 H2 a2.ex (dp_mono g2.go.hg d1) d2 _ fun v G H3 g3 hd => ?_
  have a3 := a2.gr g3
  have g123 := (g1.trans g2).trans (gx_gr (σ := σ) (e := e3) g3)
  split at k3
  · obtain ⟨w, e4, h4, k4⟩ := dBind_some k3
    obtain ⟨h5, rfl⟩ := dLift_some k4
    refine ⟨true, hd.bl_of, ?_⟩
    rw [if_pos rfl]
    refine hc W hW σ e3 G H3 a3 w e' h4 _ fun v4 B4 H4 a4 g4 d4 => ?_
    exact hr' B4 y w d h5 v2 v4 H4 a4.ex (dp_mono (g3.hg.trans g4.go.hg) d2) d4 Q fun v5 B5 H5 g5 d5 => q v5 B5 H5 (a4.gr g5) ((g123.trans g4).trans (gx_gr g5)) d5
  · obtain ⟨rfl, rfl⟩ := dK_some k3
    refine ⟨false, hd.bl_of, ?_⟩
    rw [if_neg Bool.false_ne_true]
    exact q _ G H3 a3 g123 (.bl false)
  · cases k3
theorem se_ltle (ha : SE K ta f) (hb : SE K tb g) (hc : SE K tc k) : SE K (tChain rLtU rLeU ta tb tc) (dChain ltD leD f g k) := se_chain (fun B => rf_lt) (fun B => rf_le) ha hb hc
theorem se_lele (ha : SE K ta f) (hb : SE K tb g) (hc : SE K tc k) : SE K (tChain rLeU rLeU ta tb tc) (dChain leD leD f g k) := se_chain (fun B => rf_le) (fun B => rf_le) ha hb hc
theorem se_ltlt (ha : SE K ta f) (hb : SE K tb g) (hc : SE K tc k) : SE K (tChain rLtU rLtU ta tb tc) (dChain ltD ltD f g k) := se_chain (fun B => rf_lt) (fun B => rf_lt) ha hb hc
theorem se_lelt (ha : SE K ta f) (hb : SE K tb g) (hc : SE K tc k) : SE K (tChain rLeU rLtU ta tb tc) (dChain leD ltD f g k) := se_chain (fun B => rf_le) (fun B => rf_lt) ha hb hc
theorem se_eqeq (ha : SE K ta f) (hb : SE K tb g) (hc : SE K tc k) : SE K (tChain (rEqD K) (rEqD K) ta tb tc) (dChain eqD eqD f g k) := se_chain (fun B => rf_eq) (fun B => rf_eq) ha hb hc

/-! ### slices -/
def SO (K : PySem.W.Frag) (to : TO) (f : Dn (Option Int)) : Prop := ∀ (W : Wo), W.K = K → ∀ (σ : L2.St) (e : En) (B H : Hp), At W σ e B H → ∀ o e', f e = some (o, e') →
  ∀ Q : Option Int → Hp → Prop, (∀ B' H', At W σ e' B' H' → Gx σ e B H e' B' H' → Q o H') → to σ H Q
def dPart (f : Dn PyData) : Dn (Option Int) := dBind f fun x => match x with
  | .int i => dK (some i)
  | _ => fun _ => none
theorem so_none : SO K tNoPart (dK none) := fun W hW σ e B H a o e' h Q q => by
  obtain ⟨rfl, rfl⟩ := dK_some h
  exact q B H a (.refl _ _ _ _)
theorem so_some (h : SE K te f) : SO K (tPart te) (dPart f) := fun W hW σ e B H a o e' h' Q q => by
  obtain ⟨x, e1, h1, h2⟩ := dBind_some h'
  split at h2
  · rename_i i
    obtain ⟨rfl, rfl⟩ := dK_some h2
    exact h W hW σ e B H a _ e' h1 _ fun v B1 H1 a1 g1 d1 => ⟨i, d1.int_of, q B1 H1 a1 g1⟩
  · cases h2
def cutL {α : Type} (xs : List α) (lo hi : Option Int) : List α := (xs.drop (HT.sIx xs.length 0 lo)).take (HT.sIx xs.length xs.length hi - HT.sIx xs.length 0 lo)
def rSlU (K : PySem.W.Frag) : V → Option Int → Option Int → Hp → VK → Prop := fun x lo hi H Q => rSlL K x lo hi H Q ∨ rSlA K x lo hi H Q
theorem sl_sliceU {X : Cx} : SlR X (rSlU X.K) := sl_list.or sl_tupA
def slD (x : PyData) (lo hi : Option Int) : Option PyData := match x with
  | .list xs => some (.list (cutL xs lo hi))
  | .tuple xs => some (.tuple (cutL xs lo hi))
  | _ => none
def slL (x : PyData) (lo hi : Option Int) : Option (List PyData) := match x with
  | .list xs => some (cutL xs lo hi)
  | _ => none
theorem cut_all {H : Hp} {xs : List V} {ds : List PyData} (h : DpAll K H xs ds) (lo hi : Option Int) : DpAll K H (cutV xs lo hi) (cutL ds lo hi) := by
  unfold cutV cutL
  rw [DpAll.length h]
  exact (h.drop _).take _
theorem cutL_whole {α : Type} {xs : List α} {lo hi : Option Int} (h : HT.sIx xs.length 0 lo = 0 ∧ HT.sIx xs.length xs.length hi = xs.length) : cutL xs lo hi = xs := by
  unfold cutL
  rw [h.1, h.2, List.drop_zero, Nat.sub_zero, List.take_length]
def dSl (f : Dn PyData) (l u : Dn (Option Int)) : Dn PyData := dBind f fun x => dBind l fun lo => dBind u fun hi => dLift (slD x lo hi)
def dSlL (f : Dn PyData) (l u : Dn (Option Int)) : Dn (List PyData) := dBind f fun x => dBind l fun lo => dBind u fun hi => dLift (slL x lo hi)
theorem se_sl {tl th : TO} {l u : Dn (Option Int)} (h : SE K te f) (hl : SO K tl l) (hu : SO K th u) : SE K (tSl (rSlU K) te tl th) (dSl f l u) := fun W hW σ e B H a d e' h' Q q => by
  obtain ⟨x, e1, h1, h2⟩ := dBind_some h'
  obtain ⟨lo, e2, h3, h4⟩ := dBind_some h2
  obtain ⟨hi, e3, h5, h6⟩ := dBind_some h4
  obtain ⟨h7, rfl⟩ := dLift_some h6
  refine h W hW σ e B H a x e1 h1 _ fun v1 B1 H1 a1 g1 d1 => hl W hW σ e1 B1 H1 a1 lo e2 h3 _ fun B2 H2 a2 g2 => hu W hW σ e2 B2 H2 a2 hi e' h5 _ fun B3 H3 a3 g3 => ?_
  have d3 := dp_mono (g2.go.hg.trans g3.go.hg) d1
  have g123 := (g1.trans g2).trans g3
  unfold slD at h7
  split at h7
  · rename_i xs
    cases h7
    obtain ⟨p, us, rfl, k1, k2⟩ := d3.lst_of
    refine .inl ⟨p, us, rfl, ex_l a3.ex k1, fun r hr => ?_⟩
    have gr : Gr B3 H3 (upd B3 r (.lst (cutV us lo hi))) _ := Gr.new a3.ex hr
    exact q _ _ _ (a3.gr gr) (g123.trans (gx_gr gr)) (.lst (sq_of upd_same) (dpa_mono gr.hg (cut_all k2 lo hi)))
  · rename_i xs
    cases h7
    obtain ⟨p, us, rfl, k1, k2⟩ := d3.tup_of
    refine .inr ⟨p, us, rfl, ex_t a3.ex k1, fun hw => ?_, fun _ r hr => ?_⟩
    · rw [DpAll.length k2] at hw
      rw [cutL_whole hw] at q
      exact q _ _ _ a3 g123 d3
    · have gr : Gr B3 H3 (upd B3 r (.tup (cutV us lo hi))) _ := Gr.new a3.ex hr
      exact q _ _ _ (a3.gr gr) (g123.trans (gx_gr gr)) (.tup (st_of upd_same) (dpa_mono gr.hg (cut_all k2 lo hi)))
  · cases h7
theorem sl_sl {tl th : TO} {l u : Dn (Option Int)} (h : SE K te f) (hl : SO K tl l) (hu : SO K th u) : SL K (tSl (rSlU K) te tl th) (dSlL f l u) := fun W hW σ e B H a d e' h' Q q => by
  obtain ⟨x, e1, h1, h2⟩ := dBind_some h'
  obtain ⟨lo, e2, h3, h4⟩ := dBind_some h2
  obtain ⟨hi, e3, h5, h6⟩ := dBind_some h4
  obtain ⟨h7, rfl⟩ := dLift_some h6
  refine h W hW σ e B H a x e1 h1 _ fun v1 B1 H1 a1 g1 d1 => hl W hW σ e1 B1 H1 a1 lo e2 h3 _ fun B2 H2 a2 g2 => hu W hW σ e2 B2 H2 a2 hi e' h5 _ fun B3 H3 a3 g3 => ?_
  have d3 := dp_mono (g2.go.hg.trans g3.go.hg) d1
  have g123 := (g1.trans g2).trans g3
  unfold slL at h7
  split at h7
  · rename_i xs
    cases h7
    obtain ⟨p, us, rfl, k1, k2⟩ := d3.lst_of
    refine .inl ⟨p, us, rfl, ex_l a3.ex k1, fun r hr => ?_⟩
    have gr : Gr B3 H3 B3 (upd H3 r (.lst (cutV us lo hi))) := Gr.mut a3.ex hr
    exact q _ _ _ _ (a3.gr gr) (g123.trans (gx_gr gr)) (g123.go.dm r hr) upd_same (fresh_back a3.ex hr) (cut_all k2 lo hi)
  · cases h7

/-! ### built-ins -/
def rLenU (K : PySem.W.Frag) : List V → Hp → VK → Prop := fun xs H Q => (∃ p ys, xs = [V.ref p] ∧ (SqL K H p ys ∨ SqT K H p ys) ∧ Q (.int ys.length) H) ∨ ∃ z : Str, xs = [.str z] ∧ z.length ≤ sizeLine ∧ Q (.int z.length) H
theorem call_lenU {X : Cx} : CallR X (.builtin "len") (rLenU X.K) := fun pins s σ H xs us Q I r h => h.elim (call_len_seq pins s σ H xs us Q I r) (call_len_str pins s σ H xs us Q I r)
def rIntU : List V → Hp → VK → Prop := fun xs H Q => (∃ i, xs = [V.int i] ∧ Q (.int i) H) ∨ ∃ k, xs = [V.bl k] ∧ Q (.int (if k then 1 else 0)) H
theorem call_intU {X : Cx} : CallR X (.type "int") rIntU := call_int1
def rTupU (K : PySem.W.Frag) : List V → Hp → VK → Prop := fun xs H Q => ∃ p ys, xs = [V.ref p] ∧ ((SqL K H p ys ∧ ∀ l, H l = none → Q (.ref l) (upd H l (.tup ys))) ∨ (SqT K H p ys ∧ Q (.ref p) H))
theorem call_tupU {X : Cx} : CallR X (.type "tuple") (rTupU X.K) := call_tuple_of
def rLstU (K : PySem.W.Frag) : List V → Hp → VK → Prop := fun xs H Q => ∃ p ys, xs = [V.ref p] ∧ (SqL K H p ys ∨ SqT K H p ys) ∧ ∀ l, H l = none → Q (.ref l) (upd H l (.lst ys))
theorem call_lstU {X : Cx} {K : PySem.W.Frag} (h : X.K = K) : CallR X (.type "list") (rLstU K) := by
  subst h
  exact call_list_of
def rMin2 : List V → Hp → VK → Prop := fun xs H Q => ∃ i j, xs = [V.int i, .int j] ∧ Q (.int (if j < i then j else i)) H
def rMax2 : List V → Hp → VK → Prop := fun xs H Q => ∃ i j, xs = [V.int i, .int j] ∧ Q (.int (if j > i then j else i)) H
theorem call_min2U {X : Cx} (hc : X.calm = true) : CallR X (.builtin "min") rMin2 := call_min2 hc
theorem call_max2U {X : Cx} (hc : X.calm = true) : CallR X (.builtin "max") rMax2 := call_max2 hc
/-- all of them ints -/
def intsOf : List PyData → Option (List Int)
  | [] => some []
  | .int i :: ds => (intsOf ds).map (i :: ·)
  | _ => none
theorem intsOf_some : ∀ {ds : List PyData} {ns : List Int}, intsOf ds = some ns → ds = ns.map .int
  | [], ns, h => by
    cases h
    rfl
  | .int i :: ds, ns, h => by
    obtain ⟨ms, h1, rfl⟩ := Option.map_eq_some_iff.mp h
    rw [intsOf_some h1]
    rfl
  | .none :: _, _, h => by cases h
  | .bool _ :: _, _, h => by cases h
  | .str _ :: _, _, h => by cases h
  | .list _ :: _, _, h => by cases h
  | .tuple _ :: _, _, h => by cases h
  | .dict _ :: _, _, h => by cases h
theorem intsOf_map : ∀ ns : List Int, intsOf (ns.map .int) = some ns
  | [] => rfl
  | n :: ns => by
    show (intsOf (ns.map .int)).map (n :: ·) = _
    rw [intsOf_map ns]
    rfl
def blsOf : List PyData → Option (List Bool)
  | [] => some []
  | .bool i :: ds => (blsOf ds).map (i :: ·)
  | _ => none
theorem blsOf_some : ∀ {ds : List PyData} {ns : List Bool}, blsOf ds = some ns → ds = ns.map .bool
  | [], ns, h => by
    cases h
    rfl
  | .bool i :: ds, ns, h => by
    obtain ⟨ms, h1, rfl⟩ := Option.map_eq_some_iff.mp h
    rw [blsOf_some h1]
    rfl
  | .none :: _, _, h => by cases h
  | .int _ :: _, _, h => by cases h
  | .str _ :: _, _, h => by cases h
  | .list _ :: _, _, h => by cases h
  | .tuple _ :: _, _, h => by cases h
  | .dict _ :: _, _, h => by cases h
theorem dpa_bls {H : Hp} : ∀ {vs : List V} {ns : List Bool}, DpAll K H vs (ns.map .bool) → vs = ns.map V.bl
  | _, [], .nil => rfl
  | _, n :: ns, .cons r a => by
    rw [Dp.bl_of r, dpa_bls a]
    rfl
def rAbs : List V → Hp → VK → Prop := fun xs H Q => ∃ i, xs = [V.int i] ∧ Q (.int (if i < 0 then -i else i)) H
theorem call_absU {X : Cx} : CallR X (.builtin "abs") rAbs := call_abs
def rRepr : List V → Hp → VK → Prop := fun xs H Q => (∃ i, xs = [V.int i] ∧ i.natAbs.log2 < 1920 ∧ Q (.str (toString i)) H) ∨ ∃ b, xs = [V.bl b] ∧ Q (.str (if b then "True" else "False")) H
theorem call_reprU {X : Cx} : CallR X (.builtin "repr") rRepr := by
  intro pins s σ H xs us Q I r h
  rcases h with ⟨i, rfl, hz, q⟩ | ⟨b, rfl, q⟩
  · obtain ⟨u, rfl, t, rfl⟩ := vals1 r
    exact PySem.P.repr_of_int hz ⟨.str _, H, I.tok _, ⟨_, rfl⟩, q⟩
  · obtain ⟨u, rfl, ru⟩ := vals1 r
    cases ru
    exact PySem.P.repr_of_bool ⟨.str _, H, I.tok _, ⟨_, rfl⟩, q⟩
def lenD : List PyData → Option PyData
  | [.list xs] => some (.int xs.length)
  | [.tuple xs] => some (.int xs.length)
  | [.str z] => if z.length ≤ 100000 then some (.int z.length) else none
  | _ => none
def intD : List PyData → Option PyData
  | [.int i] => some (.int i)
  | [.bool b] => some (.int (if b then 1 else 0))
  | _ => none
def tupD : List PyData → Option PyData
  | [.list xs] => some (.tuple xs)
  | [.tuple xs] => some (.tuple xs)
  | _ => none
def lstD : List PyData → Option (List PyData)
  | [.list xs] => some xs
  | [.tuple xs] => some xs
  | _ => none
def min2D : List PyData → Option PyData
  | [.int i, .int j] => some (.int (min i j))
  | _ => none
def max2D : List PyData → Option PyData
  | [.int i, .int j] => some (.int (max i j))
  | _ => none
def absD : List PyData → Option PyData
  | [.int i] => some (.int i.natAbs)
  | _ => none
def sumD : List PyData → Option PyData
  | [.list xs] => (intsOf xs).map fun ns => .int ns.sum
  | _ => none
def maxD : List PyData → Option PyData
  | [.list xs] => match intsOf xs with
    | some (n :: ns) => some (.int (ns.foldl max n))
    | _ => none
  | _ => none
def minD : List PyData → Option PyData
  | [.list xs] => match intsOf xs with
    | some (n :: ns) => some (.int (ns.foldl min n))
    | _ => none
  | _ => none
def allD : List PyData → Option PyData
  | [.list xs] => (blsOf xs).map fun bs => .bool (bs.all id)
  | _ => none
def anyD : List PyData → Option PyData
  | [.list xs] => (blsOf xs).map fun bs => .bool (bs.any id)
  | _ => none
def reprD : List PyData → Option PyData
  | [.bool b] => some (.str (if b then "True" else "False"))
  | [.int i] => if i.natAbs.log2 < 1920 then some (.str (toString i)) else none
  | _ => none
def sortI (ns : List Int) : List Int := ns.mergeSort fun i j => decide (i ≤ j)
theorem sortI_of {ns ms : List Int} (h : ms.Perm ns) (hp : ms.Pairwise (· ≤ ·)) : ms = sortI ns := by
  unfold sortI
  have h1 : (ns.mergeSort fun i j => decide (i ≤ j)).Pairwise (· ≤ ·) := by
    have z := List.pairwise_mergeSort (le := fun i j : Int => decide (i ≤ j)) (fun a b c h1 h2 => decide_eq_true (Int.le_trans (of_decide_eq_true h1) (of_decide_eq_true h2))) (fun a b => by
      rw [Bool.or_eq_true, decide_eq_true_iff, decide_eq_true_iff]
      exact Int.le_total a b) ns
    exact z.imp fun h => of_decide_eq_true h
  exact List.Perm.eq_of_pairwise (fun a b _ _ h1 h2 => Int.le_antisymm h1 h2) hp h1 (h.trans (List.mergeSort_perm ns _).symm)
def sortedD : List PyData → Option (List PyData)
  | [.list xs] => (intsOf xs).map fun ns => (sortI ns).map .int
  | _ => none
def maxDfD : List PyData → List PyData → Option PyData
  | [.tuple xs], [.int d] => (intsOf xs).map fun ns => .int (maxOf d ns)
  | [.list xs], [.int d] => (intsOf xs).map fun ns => .int (maxOf d ns)
  | _, _ => none
/-- max of a list or a tuple, with a default -/
def rMaxDfU (K : PySem.W.Frag) : List V → List V → Hp → VK → Prop := fun vs zs H Q => ∃ a ns d0, vs = [.ref a] ∧ zs = [.int d0] ∧ (SqT K H a (ns.map V.int) ∨ SqL K H a (ns.map V.int)) ∧ Q (.int (maxOf d0 ns)) H
theorem cr_maxDfU {X : Cx} (hc : X.calm = true) (hu : X.A.units + 64 < cLine) : CallRK X (.builtin "max") [Str.ofString "default"] (rMaxDfU X.K) := by
  intro pns st σ H vs zs us ws Q I r r2 h
  obtain ⟨a, ns, d0, rfl, rfl, hs | hs, q⟩ := h
  · exact cr_maxDf hc hu pns st σ H _ _ us ws Q I r r2 ⟨a, ns, d0, rfl, rfl, hs, q⟩
  · obtain ⟨its, rv, ht, _⟩ := I.list hs
    obtain ⟨as, hr⟩ := Dp.readsAll I (ns.map .int) _ its (DpAll.of_ints ns) rv
    rw [Vals.ref1 r]
    cases r2 with
    | cons z zz =>
      cases zz
      obtain ⟨tk0, rfl⟩ := z
      have hd := depth_ints ns
      refine PySem.W.max_list_default (I.ok.hd hc) ht.isList (by simpa using hr) (alike_ints ns) (by omega) (fun h0 h' tk hk => ?_) fun y ys i v h' tk bs hy hv hr' hk => ?_
      · cases ns with
        | nil => exact ⟨.int d0, H, I.kept hk, ⟨_, rfl⟩, q⟩
        | cons n ns => cases h0
      · cases ns with
        | nil => cases hy
        | cons n ns =>
          rw [List.map_cons] at hy
          injection hy with e1 e2
          subst e1 e2
          rw [PySem.W.maxD_ints] at hr'
          cases hr' with
          | int _ t => exact ⟨.int _, H, I.kept hk, ⟨_, rfl⟩, q⟩
theorem fold_max_mem : ∀ (ns : List Int) (n : Int), (ns.foldl max n = n ∨ ns.foldl max n ∈ ns) ∧ n ≤ ns.foldl max n ∧ ∀ y ∈ ns, y ≤ ns.foldl max n
  | [], n => ⟨.inl rfl, Int.le_refl _, fun y h => by cases h⟩
  | m :: ns, n => by
    obtain ⟨h1, h2, h3⟩ := fold_max_mem ns (max n m)
    show (ns.foldl max (max n m) = n ∨ ns.foldl max (max n m) ∈ m :: ns) ∧ n ≤ ns.foldl max (max n m) ∧ ∀ y ∈ m :: ns, y ≤ ns.foldl max (max n m)
    refine ⟨?_, by omega, fun y hy => ?_⟩
    · rcases h1 with h1 | h1
      · rw [h1]
        by_cases c : n ≤ m
        · exact .inr (by rw [show max n m = m by omega]; exact List.mem_cons_self ..)
        · exact .inl (by omega)
      · exact .inr (List.mem_cons_of_mem _ h1)
    · rcases List.mem_cons.mp hy with rfl | hy
      · omega
      · exact h3 y hy
theorem fold_min_mem : ∀ (ns : List Int) (n : Int), (ns.foldl min n = n ∨ ns.foldl min n ∈ ns) ∧ ns.foldl min n ≤ n ∧ ∀ y ∈ ns, ns.foldl min n ≤ y
  | [], n => ⟨.inl rfl, Int.le_refl _, fun y h => by cases h⟩
  | m :: ns, n => by
    obtain ⟨h1, h2, h3⟩ := fold_min_mem ns (min n m)
    show (ns.foldl min (min n m) = n ∨ ns.foldl min (min n m) ∈ m :: ns) ∧ ns.foldl min (min n m) ≤ n ∧ ∀ y ∈ m :: ns, ns.foldl min (min n m) ≤ y
    refine ⟨?_, by omega, fun y hy => ?_⟩
    · rcases h1 with h1 | h1
      · rw [h1]
        by_cases c : m ≤ n
        · exact .inr (by rw [show min n m = m by omega]; exact List.mem_cons_self ..)
        · exact .inl (by omega)
      · exact .inr (List.mem_cons_of_mem _ h1)
    · rcases List.mem_cons.mp hy with rfl | hy
      · omega
      · exact h3 y hy
/-- one argument -/
theorem rcd1 {r : List V → Hp → VK → Prop} {d z : PyData} (h : ∀ v H1, Ex B H1 → Dp K B v d → ∀ Q : VK, (∀ w G H2, Gr B H1 G H2 → Dp K G w z → Q w H2) → r [v] H1 Q) : RCD K r [d] B z := fun vs H1 x hd Q q => by
  cases hd with
  | cons h1 h2 =>
    cases h2
    exact h _ H1 x h1 Q q
theorem rf_len (ds : List PyData) (z : PyData) (h : lenD ds = some z) : RCD K (rLenU K) ds B z := by
  unfold lenD at h
  split at h
  · cases h
    exact rcd1 fun v H1 x hv Q q => by
      obtain ⟨a, xs, rfl, h1, h2⟩ := hv.lst_of
      refine .inl ⟨a, xs, rfl, .inl (ex_l x h1), ?_⟩
      rw [h2.length]
      exact q _ B H1 (.refl x) (.int _)
  · cases h
    exact rcd1 fun v H1 x hv Q q => by
      obtain ⟨a, xs, rfl, h1, h2⟩ := hv.tup_of
      refine .inl ⟨a, xs, rfl, .inr (ex_t x h1), ?_⟩
      rw [h2.length]
      exact q _ B H1 (.refl x) (.int _)
  · split at h
    · rename_i w hw
      cases h
      exact rcd1 fun v H1 x hv Q q => .inr ⟨w, by rw [hv.str_of], sz_of hw, q _ B H1 (.refl x) (.int _)⟩
    · cases h
  · cases h
theorem rf_int (ds : List PyData) (z : PyData) (h : intD ds = some z) : RCD K rIntU ds B z := by
  unfold intD at h
  split at h
  · cases h
    exact rcd1 fun v H1 x hv Q q => .inl ⟨_, by rw [hv.int_of], q _ B H1 (.refl x) (.int _)⟩
  · rename_i b
    cases h
    exact rcd1 fun v H1 x hv Q q => .inr ⟨b, by rw [hv.bl_of], q _ B H1 (.refl x) (.int _)⟩
  · cases h
theorem rf_tup (ds : List PyData) (z : PyData) (h : tupD ds = some z) : RCD K (rTupU K) ds B z := by
  unfold tupD at h
  split at h
  · cases h
    exact rcd_tuple (b := true)
  · cases h
    exact rcd_tuple (b := false)
  · cases h
theorem rf_lst (ds : List PyData) (z : List PyData) (h : lstD ds = some z) : RCDL K (rLstU K) ds B z := by
  unfold lstD at h
  split at h
  · cases h
    exact rcdl_list (b := true)
  · cases h
    exact rcdl_list (b := false)
  · cases h
theorem rf_min2 (ds : List PyData) (z : PyData) (h : min2D ds = some z) : RCD K rMin2 ds B z := by
  unfold min2D at h
  split at h
  · cases h
    exact rcd_min2
  · cases h
theorem rf_max2 (ds : List PyData) (z : PyData) (h : max2D ds = some z) : RCD K rMax2 ds B z := by
  unfold max2D at h
  split at h
  · cases h
    exact rcd_max2
  · cases h
theorem rf_abs (ds : List PyData) (z : PyData) (h : absD ds = some z) : RCD K rAbs ds B z := by
  unfold absD at h
  split at h
  · rename_i i
    cases h
    exact rcd1 fun v H1 x hv Q q => ⟨i, by rw [hv.int_of], by
      rw [show (if i < 0 then -i else i) = (i.natAbs : Int) by split <;> omega]
      exact q _ B H1 (.refl x) (.int _)⟩
  · cases h
theorem rf_sum (ds : List PyData) (z : PyData) (h : sumD ds = some z) : RCD K (rSum K) ds B z := by
  unfold sumD at h
  split at h
  · obtain ⟨ns, h1, rfl⟩ := Option.map_eq_some_iff.mp h
    rw [intsOf_some h1]
    exact rcd1 fun v H1 x hv Q q => by
      obtain ⟨a, xs, rfl, k1, k2⟩ := hv.lst_of
      have e := k2.ints
      subst e
      exact ⟨a, ns, rfl, ex_l x k1, q _ B H1 (.refl x) (.int _)⟩
  · cases h
theorem rf_max (ds : List PyData) (z : PyData) (h : maxD ds = some z) : RCD K (rMax K) ds B z := by
  unfold maxD at h
  split at h
  · split at h
    · rename_i n ns h1
      cases h
      rw [intsOf_some h1]
      exact rcd1 fun v H1 x hv Q q => by
        obtain ⟨a, xs, rfl, k1, k2⟩ := hv.lst_of
        have e := k2.ints
        subst e
        refine ⟨a, n :: ns, rfl, ex_l x k1, Nat.succ_pos _, fun m hm hle => ?_⟩
        obtain ⟨m1, m2, m3⟩ := fold_max_mem ns n
        have e : m = ns.foldl max n := by
          have u1 : ns.foldl max n ≤ m := by
            rcases m1 with m1 | m1
            · rw [m1]
              exact hle n (List.mem_cons_self ..)
            · exact hle _ (List.mem_cons_of_mem _ m1)
          rcases List.mem_cons.mp hm with rfl | hm
          · omega
          · have := m3 m hm
            omega
        rw [e]
        exact q _ B H1 (.refl x) (.int _)
    · cases h
  · cases h
theorem rf_min (ds : List PyData) (z : PyData) (h : minD ds = some z) : RCD K (rMin K) ds B z := by
  unfold minD at h
  split at h
  · split at h
    · rename_i n ns h1
      cases h
      rw [intsOf_some h1]
      exact rcd1 fun v H1 x hv Q q => by
        obtain ⟨a, xs, rfl, k1, k2⟩ := hv.lst_of
        have e := k2.ints
        subst e
        refine ⟨a, n :: ns, rfl, ex_l x k1, Nat.succ_pos _, fun m hm hle => ?_⟩
        obtain ⟨m1, m2, m3⟩ := fold_min_mem ns n
        have e : m = ns.foldl min n := by
          have u1 : m ≤ ns.foldl min n := by
            rcases m1 with m1 | m1
            · rw [m1]
              exact hle n (List.mem_cons_self ..)
            · exact hle _ (List.mem_cons_of_mem _ m1)
          rcases List.mem_cons.mp hm with rfl | hm
          · omega
          · have := m3 m hm
            omega
        rw [e]
        exact q _ B H1 (.refl x) (.int _)
    · cases h
  · cases h
theorem rf_all (ds : List PyData) (z : PyData) (h : allD ds = some z) : RCD K (rAll K) ds B z := by
  unfold allD at h
  split at h
  · obtain ⟨ns, h1, rfl⟩ := Option.map_eq_some_iff.mp h
    rw [blsOf_some h1]
    exact rcd1 fun v H1 x hv Q q => by
      obtain ⟨a, xs, rfl, k1, k2⟩ := hv.lst_of
      have e := dpa_bls k2
      subst e
      exact ⟨a, ns, rfl, ex_l x k1, q _ B H1 (.refl x) (.bl _)⟩
  · cases h
theorem rf_any (ds : List PyData) (z : PyData) (h : anyD ds = some z) : RCD K (rAny K) ds B z := by
  unfold anyD at h
  split at h
  · obtain ⟨ns, h1, rfl⟩ := Option.map_eq_some_iff.mp h
    rw [blsOf_some h1]
    exact rcd1 fun v H1 x hv Q q => by
      obtain ⟨a, xs, rfl, k1, k2⟩ := hv.lst_of
      have e := dpa_bls k2
      subst e
      exact ⟨a, ns, rfl, ex_l x k1, q _ B H1 (.refl x) (.bl _)⟩
  · cases h
theorem rf_repr (ds : List PyData) (z : PyData) (h : reprD ds = some z) : RCD K rRepr ds B z := by
  unfold reprD at h
  split at h
  · rename_i b
    cases h
    exact rcd1 fun v H1 x hv Q q => .inr ⟨b, by rw [hv.bl_of], q _ B H1 (.refl x) (.str _)⟩
  · split at h
    · rename_i i hi
      cases h
      exact rcd1 fun v H1 x hv Q q => .inl ⟨i, by rw [hv.int_of], hi, q _ B H1 (.refl x) (.str _)⟩
    · cases h
  · cases h
theorem rf_sorted (ds : List PyData) (z : List PyData) (h : sortedD ds = some z) : RCDL K (rSortedI K) ds B z := by
  unfold sortedD at h
  split at h
  · obtain ⟨ns, h1, rfl⟩ := Option.map_eq_some_iff.mp h
    rw [intsOf_some h1]
    intro vs H1 x hd Q q
    cases hd with
    | cons hv h2 =>
      cases h2
      obtain ⟨a, xs, rfl, k1, k2⟩ := hv.lst_of
      have e := k2.ints
      subst e
      refine ⟨a, ns, rfl, ex_l x k1, fun ms p hm hp h0 => ?_⟩
      have e := sortI_of hm hp
      subst e
      exact q p _ B _ (fresh_back x h0) h0 (Gr.mut x h0) upd_same (DpAll.of_ints _)
  · cases h
variable {fl fk : Dn (List PyData)} {tr tk : TA}
abbrev dCb (F : List PyData → Option PyData) (fl : Dn (List PyData)) : Dn PyData := dBind fl fun ds => dLift (F ds)
abbrev dCbL (F : List PyData → Option (List PyData)) (fl : Dn (List PyData)) : Dn (List PyData) := dBind fl fun ds => dLift (F ds)
theorem se_len (h : SA K tr fl) : SE K (tCB (rLenU K) tr) (dCb lenD fl) := se_cb (fun B => rf_len) h
theorem se_intC (h : SA K tr fl) : SE K (tCB rIntU tr) (dCb intD fl) := se_cb (fun B => rf_int) h
theorem se_tupC (h : SA K tr fl) : SE K (tCB (rTupU K) tr) (dCb tupD fl) := se_cb (fun B => rf_tup) h
theorem sl_lstC (h : SA K tr fl) : SL K (tCB (rLstU K) tr) (dCbL lstD fl) := sl_cb (fun B => rf_lst) h
theorem se_min2 (h : SA K tr fl) : SE K (tCB rMin2 tr) (dCb min2D fl) := se_cb (fun B => rf_min2) h
theorem se_max2 (h : SA K tr fl) : SE K (tCB rMax2 tr) (dCb max2D fl) := se_cb (fun B => rf_max2) h
theorem se_absC (h : SA K tr fl) : SE K (tCB rAbs tr) (dCb absD fl) := se_cb (fun B => rf_abs) h
theorem se_sum (h : SA K tr fl) : SE K (tCB (rSum K) tr) (dCb sumD fl) := se_cb (fun B => rf_sum) h
theorem se_maxL (h : SA K tr fl) : SE K (tCB (rMax K) tr) (dCb maxD fl) := se_cb (fun B => rf_max) h
theorem se_minL (h : SA K tr fl) : SE K (tCB (rMin K) tr) (dCb minD fl) := se_cb (fun B => rf_min) h
theorem se_all (h : SA K tr fl) : SE K (tCB (rAll K) tr) (dCb allD fl) := se_cb (fun B => rf_all) h
theorem se_any (h : SA K tr fl) : SE K (tCB (rAny K) tr) (dCb anyD fl) := se_cb (fun B => rf_any) h
theorem se_repr (h : SA K tr fl) : SE K (tCB rRepr tr) (dCb reprD fl) := se_cb (fun B => rf_repr) h
theorem sl_sorted (h : SA K tr fl) : SL K (tCB (rSortedI K) tr) (dCbL sortedD fl) := sl_cb (fun B => rf_sorted) h
theorem se_maxDf (h : SA K tr fl) (hk : SA K tk fk) : SE K (tCKw (rMaxDfU K) tr tk) (dBind fl fun ds => dBind fk fun ks => dLift (maxDfD ds ks)) := fun W hW σ e B H a d e' h' Q q => by
  obtain ⟨ds, e1, h1, h2⟩ := dBind_some h'
  obtain ⟨ks, e2, h3, h4⟩ := dBind_some h2
  obtain ⟨h5, rfl⟩ := dLift_some h4
  refine h W hW σ e B H a ds e1 h1 _ fun vs B1 H1 a1 g1 d1 => hk W hW σ e1 B1 H1 a1 ks e' h3 _ fun zs B2 H2 a2 g2 d2 => ?_
  have d3 := dpa_mono g2.go.hg d1
  have go : ∀ (b : Bool) (xs : List PyData) (d0 : Int) ns, intsOf xs = some ns → ds = [rows b xs] → ks = [.int d0] → d = .int (maxOf d0 ns) → rMaxDfU K vs zs H2 Q := fun b xs d0 ns hn e1 e2 e3 => by
    subst e1 e2 e3
    have ez := DpAll.ints (ns := [d0]) d2
    subst ez
    rw [intsOf_some hn] at d3
    cases d3 with
    | cons hv hr =>
      cases hr
      obtain ⟨a', us, rfl, hr', hus⟩ := row_of hv
      have eu := hus.ints
      subst eu
      exact ⟨a', ns, d0, rfl, rfl, hr'.elim (fun z => .inr (ex_l a2.ex z)) (fun z => .inl (ex_t a2.ex z)), q _ B2 H2 a2 (g1.trans g2) (.int _)⟩
  unfold maxDfD at h5
  split at h5
  · obtain ⟨ns, hn, rfl⟩ := Option.map_eq_some_iff.mp h5
    exact go false _ _ ns hn rfl rfl rfl
  · obtain ⟨ns, hn, rfl⟩ := Option.map_eq_some_iff.mp h5
    exact go true _ _ ns hn rfl rfl rfl
  · cases h5
/-! ### isinstance -/
def isiD (c : String) (d : PyData) : Option PyData := (kitB (tyD d) c).map .bool
def isi2D (c1 c2 : String) (d : PyData) : Option PyData := match kitB (tyD d) c1, kitB (tyD d) c2 with
  | some b1, some b2 => some (.bool (b1 || b2))
  | _, _ => none
theorem se_isi {c : String} (ha : SE K ta f) : SE K (tCB (rIsi K) (tCons ta (tCons (tC (.ty c)) tNil))) (dUn (isiD c) f) := fun W hW σ e B H a d e' h Q q => by
  obtain ⟨x, e1, h1, h⟩ := dBind_some h
  obtain ⟨h3, rfl⟩ := dLift_some h
  obtain ⟨b, hb, rfl⟩ := Option.map_eq_some_iff.mp h3
  exact ha W hW σ e B H a x e' h1 _ fun v B1 H1 a1 g1 d1 => ⟨v, .ty c, _, _, b, rfl, .ty c, tyx_of (dp_mono a1.ex d1), kit_ty hb, q _ B1 H1 a1 g1 (.bl b)⟩
theorem se_isi2 {c1 c2 : String} (ha : SE K ta f) : SE K (tCB (rIsiT K) (tCons ta (tCons (tTup (tCons (tC (.ty c1)) (tCons (tC (.ty c2)) tNil))) tNil))) (dUn (isi2D c1 c2) f) := fun W hW σ e B H a d e' h Q q => by
  obtain ⟨x, e1, h1, h⟩ := dBind_some h
  obtain ⟨h3, rfl⟩ := dLift_some h
  unfold isi2D at h3
  split at h3
  · rename_i b1 b2 k1 k2
    cases h3
    refine ha W hW σ e B H a x e' h1 _ fun v B1 H1 a1 g1 d1 => ⟨by show 2 ≤ sizeLine; decide, fun p hp => ?_⟩
    have gr : Gr B1 H1 B1 (upd H1 p (.tup [.ty c1, .ty c2])) := Gr.mut a1.ex hp
    exact ⟨v, p, [.ty c1, .ty c2], _, [.type c1, .type c2], b1 || b2, rfl, upd_same, .cons (.ty c1) (.cons (.ty c2) .nil), tyx_of (dp_mono (a1.ex.trans (Ex.new hp)) d1),
      kitAny_cons (kit_ty k1) (fun z => by
        subst z
        exact kitAny_cons (kit_ty k2) (fun z => by
          subst z
          exact kitAny_nil) fun z => by rw [z]; rfl) (fun z => by rw [z]; rfl), q _ B1 _ (a1.gr gr) (g1.trans (gx_gr gr)) (.bl _)⟩
  · cases h3
end
end Fd
end

section
set_option Elab.async false
set_option linter.all false
set_option maxRecDepth 100000
set_option maxHeartbeats 1000000
/-! Walks by meaning 8: truth, lists of one's own that are read and changed. -/
namespace Fd
open PySem PySem.Spec PyProof.Rows L2 Evl Tb

section
variable {K : PySem.W.Frag} {ta tb te tc : TE} {f g k : Dn PyData} {B : Hp} {fl : Dn (List PyData)} {tr : TA}
/-! ### truth -/
def tTruU (K : PySem.W.Frag) (ta : TE) : TT := fun σ H Q => ta σ H fun x H' => ∃ k, TruV K x H' k ∧ Q k H'
theorem pt_truU {X : Cx} {a : Expr} (ha : PE X a ta) (he : ∀ whole, isTrue a X.env whole = (do let v ← whole; standAt a.pos; holding [v] (truthy v)) := by intro _; rfl) : PT X a (tTruU X.K ta) := pt_truth ha he
def truD : PyData → Option Bool
  | .none => some false
  | .bool b => some b
  | .int i => some (i != 0)
  | .list xs => some (!xs.isEmpty)
  | .tuple xs => some (!xs.isEmpty)
  | .str x => if x.length ≤ 100000 then some ((x.length : Int) != 0) else none
  | _ => none
def dTru (f : Dn PyData) : Dn Bool := dBind f fun x => dLift (truD x)
theorem empty_len {xs : List V} {ds : List PyData} {H : Hp} (h : DpAll K H xs ds) : xs.isEmpty = ds.isEmpty := by
  cases h <;> rfl
theorem st_truU (h : SE K te f) : ST K (tTruU K te) (dTru f) := fun W hW σ e B H a b e' h' Q q => by
  obtain ⟨x, e1, h1, h2⟩ := dBind_some h'
  obtain ⟨h3, rfl⟩ := dLift_some h2
  refine h W hW σ e B H a x e' h1 _ fun v B1 H1 a1 g1 d1 => ⟨b, ?_, q B1 H1 a1 g1⟩
  cases x with
  | none =>
    cases h3
    rw [d1.non_of]
    exact rfl
  | bool c =>
    cases h3
    rw [d1.bl_of]
    exact rfl
  | int i =>
    cases h3
    rw [d1.int_of]
    exact rfl
  | str z =>
    replace h3 : (if z.length ≤ 100000 then some ((z.length : Int) != 0) else none) = some b := h3
    split at h3
    · rename_i hz
      cases h3
      rw [d1.str_of]
      exact ⟨sz_of hz, rfl⟩
    · cases h3
  | list xs =>
    cases h3
    obtain ⟨p, us, rfl, k1, k2⟩ := d1.lst_of
    exact .inl ⟨us, ex_l a1.ex k1, by rw [empty_len k2]⟩
  | tuple xs =>
    cases h3
    obtain ⟨p, us, rfl, k1, k2⟩ := d1.tup_of
    exact .inr (.inl ⟨us, ex_t a1.ex k1, by rw [empty_len k2]⟩)
  | dict xs => cases h3

/-! ### a list of one's own, read where it stands -/
def ownL (e : En) (i : Nat) : Option (List PyData) := match e[i]? with
  | some (.o xs) => some xs
  | some (.p xs) => some xs
  | _ => none
theorem ownL_some {e : En} {i : Nat} {xs : List PyData} (h : ownL e i = some xs) : ∃ s, e[i]? = some s ∧ s.own = some xs := by
  unfold ownL at h
  split at h
  · cases h
    exact ⟨_, by assumption, rfl⟩
  · cases h
    exact ⟨_, by assumption, rfl⟩
  · cases h
/-- x[i], x at a slot: its list stays one's own -/
def dIxV (i : Nat) (g : Dn PyData) : Dn PyData := fun e => match ownL e i with
  | none => dOp ixD (dVar i) g e
  | some _ => match g e with
    | none => none
    | some (y, e1) => match ownL e1 i with
      | some xs => (match y with
        | .int k => (atI xs k).map fun d => (d, e1)
        | _ => none)
      | none => none
theorem se_ixV {i : Nat} (hb : SE K tb g) : SE K (tOp (rIx K) (tVar i) tb) (dIxV i g) := fun W hW σ e B H a d e' h Q q => by
  unfold dIxV at h
  split at h
  · exact se_ix se_var hb W hW σ e B H a d e' h Q q
  · rename_i xs0 ho
    obtain ⟨s0, i0, o0⟩ := ownL_some ho
    split at h
    · cases h
    rename_i y e1 h1
    split at h
    · rename_i xs ho1
      split at h
      · rename_i kk
        obtain ⟨d', hd, h2⟩ := Option.map_eq_some_iff.mp h
        cases h2
        obtain ⟨s1, i1, o1⟩ := ownL_some ho1
        obtain ⟨p, us0, k1, _⟩ := own_at a i0 o0
        refine ⟨.ref p, k1, hb W hW σ e B H a _ e' h1 _ fun v B1 H1 a1 g1 d1 => ?_⟩
        obtain ⟨p', us, k2, k3, k4, k5⟩ := own_at a1 i1 o1
        rw [k1] at k2
        cases k2
        rw [hW] at k5
        obtain ⟨w, w1, w2⟩ := at_dp k5 hd
        exact .inl ⟨p, us, kk, w, rfl, d1.int_of, sq_of k4, w1, q w B1 H1 a1 g1 w2⟩
      · cases h
    · cases h
def dLenV (i : Nat) : Dn PyData := fun e => match ownL e i with
  | none => dCb lenD (dCons (dVar i) (dK [])) e
  | some xs => some (.int xs.length, e)
theorem se_lenV {i : Nat} : SE K (tCB (rLenU K) (tCons (tVar i) tNil)) (dLenV i) := fun W hW σ e B H a d e' h Q q => by
  unfold dLenV at h
  split at h
  · exact se_len (sa_cons se_var sa_nil) W hW σ e B H a d e' h Q q
  · rename_i xs ho
    cases h
    obtain ⟨s0, i0, o0⟩ := ownL_some ho
    obtain ⟨p, us, k1, k2, k3, k4⟩ := own_at a i0 o0
    refine ⟨.ref p, k1, .inl ⟨p, us, rfl, .inl (sq_of k3), ?_⟩⟩
    rw [DpAll.length k4]
    exact q _ B H a (.refl _ _ _ _) (.int _)
/-- tuple(x), list(x), x a list of one's own: it stays so -/
def dTupV (i : Nat) : Dn PyData := fun e => match ownL e i with
  | none => dCb tupD (dCons (dVar i) (dK [])) e
  | some xs => some (.tuple xs, e)
theorem se_tupV {i : Nat} : SE K (tCB (rTupU K) (tCons (tVar i) tNil)) (dTupV i) := fun W hW σ e B H a d e' h Q q => by
  unfold dTupV at h
  split at h
  · exact se_tupC (sa_cons se_var sa_nil) W hW σ e B H a d e' h Q q
  · rename_i xs ho
    cases h
    obtain ⟨s0, i0, o0⟩ := ownL_some ho
    obtain ⟨p, us, k1, k2, k3, k4⟩ := own_at a i0 o0
    rw [hW] at k4
    refine ⟨.ref p, k1, p, us, rfl, .inl ⟨sq_of k3, fun r hr => ?_⟩⟩
    have gr : Gr B H (upd B r (.tup us)) _ := Gr.new a.ex hr
    exact q _ _ _ (a.gr gr) (gx_gr gr) (.tup (st_of upd_same) (dpa_mono gr.hg k4))
def dLstV (i : Nat) : Dn (List PyData) := fun e => match ownL e i with
  | none => dCbL lstD (dCons (dVar i) (dK [])) e
  | some xs => some (xs, e)
theorem sl_lstV {i : Nat} : SL K (tCB (rLstU K) (tCons (tVar i) tNil)) (dLstV i) := fun W hW σ e B H a d e' h Q q => by
  unfold dLstV at h
  split at h
  · exact sl_lstC (sa_cons se_var sa_nil) W hW σ e B H a d e' h Q q
  · rename_i xs ho
    cases h
    obtain ⟨s0, i0, o0⟩ := ownL_some ho
    obtain ⟨p, us, k1, k2, k3, k4⟩ := own_at a i0 o0
    rw [hW] at k4
    refine ⟨.ref p, k1, p, us, rfl, .inl (sq_of k3), fun r hr => ?_⟩
    have gr : Gr B H B (upd H r (.lst us)) := Gr.mut a.ex hr
    exact q r us _ _ (a.gr gr) (gx_gr gr) hr upd_same (fresh_back a.ex hr) k4
/-- x[a:b], x a list of one's own -/
def dSlV (i : Nat) (l u : Dn (Option Int)) : Dn (List PyData) := fun e => match ownL e i with
  | none => dSlL (dVar i) l u e
  | some _ => dBind l (fun lo => dBind u fun hi => fun e2 => (ownL e2 i).map fun xs => (cutL xs lo hi, e2)) e
theorem sl_slV {i : Nat} {tl th : TO} {l u : Dn (Option Int)} (hl : SO K tl l) (hu : SO K th u) : SL K (tSl (rSlU K) (tVar i) tl th) (dSlV i l u) := fun W hW σ e B H a d e' h Q q => by
  unfold dSlV at h
  split at h
  · exact sl_sl se_var hl hu W hW σ e B H a d e' h Q q
  · rename_i xs ho
    obtain ⟨s0, i0, o0⟩ := ownL_some ho
    obtain ⟨lo, e2, h3, h4⟩ := dBind_some h
    obtain ⟨hi, e3, h5, h6⟩ := dBind_some h4
    obtain ⟨ys, ho2, h7⟩ := Option.map_eq_some_iff.mp h6
    cases h7
    obtain ⟨s1, i1, o1⟩ := ownL_some ho2
    obtain ⟨p, us0, k1, _⟩ := own_at a i0 o0
    refine ⟨.ref p, k1, hl W hW σ e B H a lo e2 h3 _ fun B2 H2 a2 g2 => hu W hW σ e2 B2 H2 a2 hi e' h5 _ fun B3 H3 a3 g3 => ?_⟩
    obtain ⟨p', us, k2, k3, k4, k5⟩ := own_at a3 i1 o1
    rw [k1] at k2
    cases k2
    rw [hW] at k5
    refine .inl ⟨p, us, rfl, sq_of k4, fun r hr => ?_⟩
    have gr : Gr B3 H3 B3 (upd H3 r (.lst (cutV us lo hi))) := Gr.mut a3.ex hr
    exact q r _ _ _ (a3.gr gr) ((g2.trans g3).trans (gx_gr gr)) (g2.go.dm r (g3.go.dm r hr)) upd_same (fresh_back a3.ex hr) (cut_all k5 lo hi)

/-! ### a list of one's own, changed -/
def putL (e : En) (i : Nat) (ys : List PyData) : Option En := match e[i]? with
  | some (.o _) => some (e.set i (.o ys))
  | some (.p _) => some (e.set i (.p ys))
  | _ => none
theorem putL_some {e e' : En} {i : Nat} {ys : List PyData} (h : putL e i ys = some e') : ∃ s s' xs, e[i]? = some s ∧ s.own = some xs ∧ s'.own = some ys ∧ s.isP = s'.isP ∧ e' = e.set i s' := by
  unfold putL at h
  split at h
  · rename_i xs hx
    cases h
    exact ⟨.o xs, .o ys, xs, hx, rfl, rfl, rfl, rfl⟩
  · rename_i xs hx
    cases h
    exact ⟨.p xs, .p ys, xs, hx, rfl, rfl, rfl, rfl⟩
  · cases h
theorem at_put {W : Wo} {σ : L2.St} {e e' : En} {B H : Hp} {i : Nat} {ys : List PyData} {p : Addr} {us : List V} (a : At W σ e B H) (h : putL e i ys = some e') (hp : σ[i]? = some (some (.ref p))) (hv : DpAll W.K B us ys) : At W σ e' B (upd H p (.lst us)) ∧ Go W.M B H B (upd H p (.lst us)) := by
  obtain ⟨s, s', xs, k1, k2, k3, k4, rfl⟩ := putL_some h
  exact a.put k1 k2 k3 k4 hp hv
def few (xs : List PyData) : Bool := decide (xs.length < 90000)
/-- what a call changes at a slot -/
def sMeth (i : Nat) (F : List PyData → List PyData → Option (List PyData)) (fl : Dn (List PyData)) : Ds := fun e => match ownL e i with
  | none => none
  | some _ => match fl e with
    | none => none
    | some (ds, e1) => match ownL e1 i with
      | none => none
      | some xs => if few xs = true then (match F xs ds with
        | none => none
        | some ys => (putL e1 i ys).map .nx) else none
/-- the rule of a method: what it asks of the machine -/
def MtF (K : PySem.W.Frag) (r : V → List V → Hp → VK → Prop) (F : List PyData → List PyData → Option (List PyData)) : Prop := ∀ (B H : Hp) (p : Addr) (us vs : List V) (xs ds ys : List PyData), Ex B H → B p = none → H p = some (.lst us) → DpAll K B us xs → DpAll K B vs ds → us.length < 90000 → F xs ds = some ys →
  ∀ Q : VK, (∀ ws, DpAll K B ws ys → Q .non (upd H p (.lst ws))) → r (.ref p) vs H Q
theorem ss_meth {i : Nat} {r : V → List V → Hp → VK → Prop} {F : List PyData → List PyData → Option (List PyData)} (hr : MtF K r F) (h : SA K tr fl) : SS K (tDrop (tBM K "list" r (tVar i) tr)) (sMeth i F fl) := fun W hW σ e B H a rs hrs D q => by
  unfold sMeth at hrs
  split at hrs
  · cases hrs
  rename_i xs0 ho
  split at hrs
  · cases hrs
  rename_i ds e1 h1
  split at hrs
  · cases hrs
  rename_i xs ho1
  by_cases hf : few xs = true
  case neg =>
    rw [if_neg hf] at hrs
    cases hrs
  rw [if_pos hf] at hrs
  split at hrs
  · cases hrs
  rename_i ys hF
  obtain ⟨e2, hput, rfl⟩ := Option.map_eq_some_iff.mp hrs
  obtain ⟨s0, i0, o0⟩ := ownL_some ho
  obtain ⟨s1, i1, o1⟩ := ownL_some ho1
  obtain ⟨p, us0, k1, _, k3', _⟩ := own_at a i0 o0
  refine ⟨.ref p, k1, .inl ⟨rfl, us0, sq_of k3'⟩, h W hW σ e B H a ds e1 h1 _ fun vs B1 H1 a1 g1 d1 => ?_⟩
  obtain ⟨p', us, k2, k3, k4, k5⟩ := own_at a1 i1 o1
  rw [k1] at k2
  cases k2
  rw [hW] at k5
  have hl : us.length < 90000 := by
    rw [DpAll.length k5]
    exact of_decide_eq_true hf
  refine hr B1 H1 p us vs xs ds ys a1.ex k3 k4 k5 d1 hl hF _ fun ws hws => ?_
  obtain ⟨a2, g2⟩ := at_put a1 hput k1 (hW ▸ hws)
  exact q σ B1 _ a2 ((a.goM g1).trans g2)
def appF (xs ds : List PyData) : Option (List PyData) := match ds with
  | [d] => some (xs ++ [d])
  | _ => none
def extF (xs ds : List PyData) : Option (List PyData) := match ds with
  | [.list ys] => if ys.length < 9000 then some (xs ++ ys) else none
  | [.tuple ys] => if ys.length < 9000 then some (xs ++ ys) else none
  | _ => none
def insF (xs ds : List PyData) : Option (List PyData) := match ds with
  | [.int k, d] => if 0 ≤ k ∧ k < 1000000 then some (xs.take k.toNat ++ [d] ++ xs.drop k.toNat) else none
  | _ => none
theorem mf_app : MtF K rAppend appF := fun B H p us vs xs ds ys x hB hH hu hv hl hF Q q => by
  unfold appF at hF
  split at hF
  · cases hF
    cases hv with
    | cons h1 h2 =>
      cases h2
      exact ⟨p, us, _, rfl, rfl, hH, sz_lt (by omega), q _ (hu.append (.one h1))⟩
  · cases hF
def rExtU (K : PySem.W.Frag) : V → List V → Hp → VK → Prop := fun x vs H Q => ∃ l b xs zs, x = .ref l ∧ vs = [.ref b] ∧ H l = some (.lst xs) ∧ (SqT K H b zs ∨ H b = some (.lst zs)) ∧ xs.length + zs.length ≤ sizeLine ∧ Q .non (upd H l (.lst (xs ++ zs)))
theorem mt_extU {X : Cx} : MtM X "list.extend" (rExtU X.K) := fun pins s σ H x vs v us Q I rx rv h => by
  obtain ⟨l, b, xs, zs, h1, h2, h3, h4, h5, h6⟩ := h
  rcases h4 with h4 | h4
  · exact mt_extA pins s σ H x vs v us Q I rx rv ⟨l, b, xs, zs, h1, h2, h3, h4, h5, h6⟩
  · exact mt_extend pins s σ H x vs v us Q I rx rv ⟨l, b, xs, zs, h1, h2, h3, h4, h5, h6⟩
def rInsU : V → List V → Hp → VK → Prop := fun x vs H Q => ∃ (l : Addr) (xs : List V) (i : Int) (y : V), x = .ref l ∧ vs = [.int i, y] ∧ H l = some (.lst xs) ∧ xs.length < sizeLine ∧ 0 ≤ i ∧ i < 2 ^ 63 ∧
    Q .non (upd H l (.lst (xs.take i.toNat ++ [y] ++ xs.drop i.toNat)))
theorem mt_insU {X : Cx} : MtR X "list.insert" rInsU := mt_insert
theorem mf_ins : MtF K rInsU insF := fun B H p us vs xs ds ys x hB hH hu hv hl hF Q q => by
  unfold insF at hF
  split at hF
  · rename_i k d
    split at hF
    · rename_i hk
      cases hF
      cases hv with
      | cons h1 h2 =>
        cases h2 with
        | cons h2 h3 =>
          cases h3
          have bg : (1000000 : Int) < 2 ^ 63 := by decide
          refine ⟨p, us, k, _, rfl, by rw [h1.int_of], hH, sz_lt (by omega), hk.1, by omega, q _ (((hu.take _).append (.one h2)).append (hu.drop _))⟩
    · cases hF
  · cases hF
/-- name.extend(a new list): the list display or comprehension is made, then taken over -/
def sExtL (i : Nat) (fl : Dn (List PyData)) : Ds := fun e => match ownL e i with
  | none => none
  | some _ => match fl e with
    | none => none
    | some (ys, e1) => match ownL e1 i with
      | none => none
      | some xs => if (few xs && decide (ys.length < 9000)) = true then (putL e1 i (xs ++ ys)).map .nx else none
theorem ss_extL {i : Nat} (h : SL K te fl) : SS K (tDrop (tBM K "list" (rExtU K) (tVar i) (tCons te tNil))) (sExtL i fl) := fun W hW σ e B H a rs hrs D q => by
  unfold sExtL at hrs
  split at hrs
  · cases hrs
  rename_i xs0 ho
  split at hrs
  · cases hrs
  rename_i ys e1 h1
  split at hrs
  · cases hrs
  rename_i xs ho1
  by_cases hf : (few xs && decide (ys.length < 9000)) = true
  case neg =>
    rw [if_neg hf] at hrs
    cases hrs
  rw [if_pos hf] at hrs
  rw [Bool.and_eq_true] at hf
  obtain ⟨e2, hput, rfl⟩ := Option.map_eq_some_iff.mp hrs
  obtain ⟨s0, i0, o0⟩ := ownL_some ho
  obtain ⟨s1, i1, o1⟩ := ownL_some ho1
  obtain ⟨p, us0, k1, _, k3', _⟩ := own_at a i0 o0
  refine ⟨.ref p, k1, .inl ⟨rfl, us0, sq_of k3'⟩, h W hW σ e B H a ys e1 h1 _ fun r vs B1 H1 a1 g1 r0 hr hB1 d1 => ?_⟩
  obtain ⟨p', us, k2, k3, k4, k5⟩ := own_at a1 i1 o1
  rw [k1] at k2
  cases k2
  rw [hW] at k5
  have h1' := of_decide_eq_true hf.1
  have h2' := of_decide_eq_true hf.2
  refine ⟨p, r, us, vs, rfl, rfl, k4, .inr hr, sz_of (by rw [DpAll.length k5, DpAll.length d1]; omega), ?_⟩
  obtain ⟨a2, g2⟩ := at_put a1 hput k1 (hW ▸ k5.append d1)
  exact q σ B1 _ a2 ((a.goM g1).trans g2)
/-- name.extend(a tuple) -/
def extT (xs ds : List PyData) : Option (List PyData) := match ds with
  | [.tuple ys] => if ys.length < 9000 then some (xs ++ ys) else none
  | _ => none
theorem mf_extT : MtF K (rExtU K) extT := fun B H p us vs xs ds ys x hB hH hu hv hl hF Q q => by
  unfold extT at hF
  split at hF
  · rename_i zs
    split at hF
    · rename_i hz
      cases hF
      cases hv with
      | cons h1 h2 =>
        cases h2
        obtain ⟨b, ws, rfl, k1, k2⟩ := h1.tup_of
        exact ⟨p, b, us, ws, rfl, rfl, hH, .inl (ex_t x k1), sz_of (by rw [DpAll.length k2]; omega), q _ (hu.append k2)⟩
    · cases hF
  · cases hF

/-! ### stores -/
/-- name[k] = v -/
def sSetIx (i : Nat) (fv fk : Dn PyData) : Ds := fun e => match fv e with
  | none => none
  | some (d, e1) => match ownL e1 i with
    | none => none
    | some _ => match fk e1 with
      | none => none
      | some (y, e2) => match ownL e2 i with
        | none => none
        | some xs => match y with
          | .int k => match ixN xs.length k with
            | some j => (putL e2 i (xs.set j d)).map .nx
            | none => none
          | _ => none
theorem dpa_set {H : Hp} {v : V} {d : PyData} (hv : Dp K H v d) : ∀ {xs : List V} {ds : List PyData} (j : Nat), DpAll K H xs ds → DpAll K H (xs.set j v) (ds.set j d)
  | _, _, _, .nil => .nil
  | _, _, 0, .cons _ h2 => .cons hv h2
  | _, _, j + 1, .cons h1 h2 => .cons h1 (dpa_set hv j h2)
theorem ss_setIx {i : Nat} (hv : SE K te f) (hk : SE K tb g) : SS K (tAsg te (gSub (tVar i) tb rSetL)) (sSetIx i f g) := fun W hW σ e B H a rs hrs D q => by
  unfold sSetIx at hrs
  split at hrs
  · cases hrs
  rename_i d e1 h1
  split at hrs
  · cases hrs
  rename_i xs0 ho
  split at hrs
  · cases hrs
  rename_i y e2 h2
  split at hrs
  · cases hrs
  rename_i xs ho2
  split at hrs
  · rename_i k
    split at hrs
    · rename_i j hj
      obtain ⟨e3, hput, rfl⟩ := Option.map_eq_some_iff.mp hrs
      obtain ⟨s0, i0, o0⟩ := ownL_some ho
      obtain ⟨s1, i1, o1⟩ := ownL_some ho2
      refine hv W hW σ e B H a d e1 h1 _ fun v B1 H1 a1 g1 d1 => ?_
      obtain ⟨p, us0, k1, _⟩ := own_at a1 i0 o0
      refine ⟨.ref p, k1, hk W hW σ e1 B1 H1 a1 _ e2 h2 _ fun w B2 H2 a2 g2 d2 => ?_⟩
      obtain ⟨p', us, k2, k3, k4, k5⟩ := own_at a2 i1 o1
      rw [k1] at k2
      cases k2
      rw [hW] at k5
      obtain ⟨a3, g3⟩ := at_put a2 hput k1 (hW ▸ dpa_set (dp_mono g2.go.hg d1) j k5)
      exact ⟨p, us, k, j, rfl, d2.int_of, k4, by rw [DpAll.length k5]; exact hj, q σ B2 _ a3 (((a.goM g1).trans (a1.goM g2)).trans g3)⟩
    · cases hrs
  · cases hrs
/-- name[:k] = a new list -/
def sSetHead (i : Nat) (fv : Dn (List PyData)) (fu : Dn (Option Int)) : Ds := fun e => match fv e with
  | none => none
  | some (ys, e1) => match ownL e1 i with
    | none => none
    | some _ => match fu e1 with
      | none => none
      | some (o, e2) => match ownL e2 i with
        | none => none
        | some xs => match o with
          | some k => if (decide (0 ≤ k ∧ k ≤ xs.length) && decide (xs.length + ys.length ≤ 90000)) = true then (putL e2 i (ys ++ xs.drop k.toNat)).map .nx else none
          | none => none
theorem ss_setHead {i : Nat} {th : TO} {fu : Dn (Option Int)} (hv : SL K te fl) (hk : SO K th fu) : SS K (tAsg te (gHead (tVar i) th)) (sSetHead i fl fu) := fun W hW σ e B H a rs hrs D q => by
  unfold sSetHead at hrs
  split at hrs
  · cases hrs
  rename_i ys e1 h1
  split at hrs
  · cases hrs
  rename_i xs0 ho
  split at hrs
  · cases hrs
  rename_i o e2 h2
  split at hrs
  · cases hrs
  rename_i xs ho2
  cases o with
  | none => cases hrs
  | some k =>
  replace hrs : (if (decide (0 ≤ k ∧ k ≤ xs.length) && decide (xs.length + ys.length ≤ 90000)) = true then (putL e2 i (ys ++ xs.drop k.toNat)).map .nx else none) = some rs := hrs
  by_cases hf : (decide (0 ≤ k ∧ k ≤ xs.length) && decide (xs.length + ys.length ≤ 90000)) = true
  case neg =>
    rw [if_neg hf] at hrs
    cases hrs
  rw [if_pos hf] at hrs
  rw [Bool.and_eq_true] at hf
  have f1 := of_decide_eq_true hf.1
  have f2 := of_decide_eq_true hf.2
  obtain ⟨e3, hput, rfl⟩ := Option.map_eq_some_iff.mp hrs
  obtain ⟨s0, i0, o0⟩ := ownL_some ho
  obtain ⟨s1, i1, o1⟩ := ownL_some ho2
  refine hv W hW σ e B H a ys e1 h1 _ fun r vs B1 H1 a1 g1 r0 hr hB1 d1 => ?_
  obtain ⟨p, us0, k1, _, k3', _⟩ := own_at a1 i0 o0
  have nor : ¬ Ow σ e1 r := fun z => (a.ow (g1.ow r z)).2.1 r0
  have pr : p ≠ r := fun z => nor ⟨i, s0, xs0, i0, o0, by rw [← z]; exact k1⟩
  refine ⟨.ref p, k1, hk W hW σ e1 B1 H1 a1 _ e2 h2 _ fun B2 H2 a2 g2 => ?_⟩
  obtain ⟨p', us, k2, k3, k4, k5⟩ := own_at a2 i1 o1
  rw [k1] at k2
  cases k2
  rw [hW] at k5
  have hr2 := g2.go.fr r _ nor hr
  have hd : DpAll K B2 (vs ++ us.drop k.toNat) (ys ++ xs.drop k.toNat) := (dpa_mono g2.go.hg d1).append (k5.drop _)
  obtain ⟨a3, g3⟩ := at_put a2 hput k1 (hW ▸ hd)
  have l1 := DpAll.length k5
  have l2 := DpAll.length d1
  exact ⟨p, r, us, vs, k.toNat, rfl, congrArg some (by omega), rfl, k4, hr2, pr, by omega, sz_of (by omega), q σ B2 _ a3 (((a.goM g1).trans (a1.goM g2)).trans g3)⟩
/-- name += e, ints -/
def sAug (i : Nat) (F : Int → Int → Int) (fv : Dn PyData) : Ds := fun e => match e[i]? with
  | some (.d (.int m)) => match fv e with
    | some (.int n, e1) => (setD i (.int (F m n)) e1).map .nx
    | _ => none
  | _ => none
theorem ss_aug {i : Nat} {F : Int → Int → Int} (h : SE K te f) : SS K (tAug i te (ipI F)) (sAug i F f) := fun W hW σ e B H a rs hrs D q => by
  unfold sAug at hrs
  split at hrs
  · rename_i m hm
    split at hrs
    · rename_i n e1 h1
      obtain ⟨e2, h2, rfl⟩ := Option.map_eq_some_iff.mp hrs
      unfold setD at h2
      split at h2
      · rename_i hc
        cases h2
        obtain ⟨v, k1, k2⟩ := a.dat i _ hm
        have ev := k2.int_of
        subst ev
        refine ⟨_, k1, h W hW σ e B H a _ e1 h1 _ fun w B1 H1 a1 g1 d1 => ⟨m, n, rfl, d1.int_of, q _ B1 H1 (a1.setD (can_pn a1 hc) (.int _)) (a.goM g1)⟩⟩
      · cases h2
    · cases hrs
  · cases hrs
/-- a new list times an int -/
def dRep (fl : Dn (List PyData)) (g : Dn PyData) : Dn (List PyData) := dBind fl fun xs => dBind g fun y => match y with
  | .int k => if -1000 ≤ k ∧ k ≤ 1000 ∧ xs.length ≤ 60 then dK (List.replicate k.toNat xs).flatten else fun _ => none
  | _ => fun _ => none
theorem sl_rep (ha : SL K ta fl) (hb : SE K tb g) : SL K (tOp rRep ta tb) (dRep fl g) := fun W hW σ e B H a d e' h Q q => by
  obtain ⟨xs, e1, h1, h2⟩ := dBind_some h
  obtain ⟨y, e2, h3, h4⟩ := dBind_some h2
  split at h4
  · rename_i k
    split at h4
    · rename_i hk
      obtain ⟨rfl, rfl⟩ := dK_some h4
      refine ha W hW σ e B H a xs e1 h1 _ fun p us B1 H1 a1 g1 p0 hp pB d1 => ?_
      have nor : ¬ Ow σ e1 p := fun z => (a.ow (g1.ow p z)).2.1 p0
      refine hb W hW σ e1 B1 H1 a1 _ e' h3 _ fun w B2 H2 a2 g2 d2 => ?_
      have bg : (1000000 : Int) < 2 ^ 63 := by decide
      have hl := DpAll.length d1
      have hm : us.length * k.toNat ≤ 60 * 1000 := Nat.mul_le_mul (by omega) (by omega)
      refine ⟨p, k, us, rfl, d2.int_of, g2.go.fr p _ nor hp, by omega, by omega, Nat.le_trans hm (by decide), fun r hr => ?_⟩
      have gr : Gr B2 H2 B2 (upd H2 r (.lst (List.replicate k.toNat us).flatten)) := Gr.mut a2.ex hr
      exact q r _ _ _ (a2.gr gr) ((g1.trans g2).trans (gx_gr gr)) (g1.go.dm r (g2.go.dm r hr)) upd_same (fresh_back a2.ex hr) (dpa_rep _ (dpa_mono g2.go.hg d1))
    · cases h4
  · cases h4
/-- list(range(i, j)), list(range(j)) -/
def dLRg2 (f g : Dn PyData) : Dn (List PyData) := dBind f fun x => dBind g fun y => match x, y with
  | .int i, .int j => if 0 ≤ i ∧ i ≤ 1000000 ∧ 0 ≤ j ∧ j ≤ 1000000 then dK (rgD i (j - i).toNat) else fun _ => none
  | _, _ => fun _ => none
theorem dpa_rg (i : Int) (n : Nat) (H : Hp) : DpAll K H ((List.range n).map fun m => V.int (i + (m : Nat))) (rgD i n) := by
  unfold rgD
  have all : ∀ l : List Nat, DpAll K H (l.map fun m => V.int (i + (m : Nat))) (l.map fun m => PyData.int (i + (m : Nat))) := fun l => by
    induction l with
    | nil => exact .nil
    | cons a l ih => exact .cons (.int _) ih
  exact all _
theorem sl_lrg2 (ha : SE K ta f) (hb : SE K tb g) : SL K (tLstRg (tRg2 ta tb)) (dLRg2 f g) := fun W hW σ e B H a d e' h Q q => by
  obtain ⟨x, e1, h1, h2⟩ := dBind_some h
  obtain ⟨y, e2, h3, h4⟩ := dBind_some h2
  split at h4
  · rename_i i j
    split at h4
    · rename_i hk
      obtain ⟨rfl, rfl⟩ := dK_some h4
      refine ha W hW σ e B H a _ e1 h1 _ fun v B1 H1 a1 g1 d1 => hb W hW σ e1 B1 H1 a1 _ e' h3 _ fun w B2 H2 a2 g2 d2 => ⟨i, j, d1.int_of, d2.int_of, .of_le hk.1 (by omega) (by omega) hk.2.2.1, fun r hr => ?_⟩
      have gr : Gr B2 H2 B2 (upd H2 r (.lst (rgV i j))) := Gr.mut a2.ex hr
      exact q r _ _ _ (a2.gr gr) ((g1.trans g2).trans (gx_gr gr)) (g1.go.dm r (g2.go.dm r hr)) upd_same (fresh_back a2.ex hr) (dpa_rg i _ B2)
    · cases h4
  · cases h4
def dLRg1 (f : Dn PyData) : Dn (List PyData) := dBind f fun x => match x with
  | .int j => if 0 ≤ j ∧ j ≤ 1000000 then dK (rgD 0 j.toNat) else fun _ => none
  | _ => fun _ => none
theorem sl_lrg1 (ha : SE K ta f) : SL K (tLstRg (tRg1 ta)) (dLRg1 f) := fun W hW σ e B H a d e' h Q q => by
  obtain ⟨x, e1, h1, h2⟩ := dBind_some h
  split at h2
  · rename_i j
    split at h2
    · rename_i hk
      obtain ⟨rfl, rfl⟩ := dK_some h2
      refine ha W hW σ e B H a _ e' h1 _ fun v B1 H1 a1 g1 d1 => ⟨j, d1.int_of, .of_le (Int.le_refl 0) (by omega) (by omega) hk.1, fun r hr => ?_⟩
      have gr : Gr B1 H1 B1 (upd H1 r (.lst (rgV 0 j))) := Gr.mut a1.ex hr
      have hd : DpAll K B1 (rgV 0 j) (rgD 0 j.toNat) := by
        have := dpa_rg (K := K) 0 (j - 0).toNat B1
        rw [Int.sub_zero] at this
        rw [show rgV 0 j = (List.range j.toNat).map fun m => V.int (0 + (m : Nat)) by
          show (List.range (j - 0).toNat).map (fun m => V.int (0 + (m : Nat))) = _
          rw [Int.sub_zero]]
        exact this
      exact q r _ _ _ (a1.gr gr) (g1.trans (gx_gr gr)) (g1.go.dm r hr) upd_same (fresh_back a1.ex hr) hd
    · cases h2
  · cases h2
end
end Fd
end

section
set_option Elab.async false
set_option linter.all false
set_option maxRecDepth 100000
set_option maxHeartbeats 1000000
/-! Walks by meaning 9: zip, several targets of both kinds, the law. -/
namespace Fd
open PySem PySem.Spec PyProof.Rows L2 Evl Tb

theorem bb_sorted : bootBuiltins "sorted" = some (.builtin "sorted") := by decide +kernel
theorem bb_all : bootBuiltins "all" = some (.builtin "all") := by decide +kernel
theorem bb_any : bootBuiltins "any" = some (.builtin "any") := by decide +kernel
theorem bb_repr : bootBuiltins "repr" = some (.builtin "repr") := by decide +kernel
/-- the built-in names that a module does not name anew -/
structure Bm (mg : Str → Option Value) : Prop where
  int : mg "int" = none
  bool : mg "bool" = none
  str : mg "str" = none
  list : mg "list" = none
  tuple : mg "tuple" = none
  dict : mg "dict" = none
  set : mg "set" = none
  len : mg "len" = none
  max : mg "max" = none
  min : mg "min" = none
  abs : mg "abs" = none
  sum : mg "sum" = none
  all : mg "all" = none
  any : mg "any" = none
  repr : mg "repr" = none
  sorted : mg "sorted" = none
  zip : mg "zip" = none
  isinstance : mg "isinstance" = none
  enumerate : mg "enumerate" = none
  reversed : mg "reversed" = none
  range : mg "range" = none

def zipD : List PyData → List PyData → List PyData := List.zipWith fun x y => .tuple [x, y]
def dZip (f : Dn (List PyData)) : Dn (List PyData) := dBind f fun ds => match ds with
  | [.list xs, .list ys] => dK (zipD xs ys)
  | _ => fun _ => none
section
variable {K : PySem.W.Frag} {ta tb te : TE} {tr : TA} {f g : Dn PyData} {fl fk : Dn (List PyData)} {B : Hp}
theorem zip_get (xs ys : List PyData) (i : Nat) (d : PyData) (h : (zipD xs ys)[i]? = some d) : ∃ x y, xs[i]? = some x ∧ ys[i]? = some y ∧ d = .tuple [x, y] := by
  unfold zipD at h
  rw [List.getElem?_zipWith] at h
  cases hx : xs[i]? with
  | none =>
    rw [hx] at h
    cases h
  | some x =>
    cases hy : ys[i]? with
    | none =>
      rw [hx, hy] at h
      cases h
    | some y =>
      rw [hx, hy] at h
      cases h
      exact ⟨x, y, rfl, rfl, rfl⟩
theorem si_zip (h : SA K tr fl) : SI K (iZip K tr) (dZip fl) := fun W hW σ e B H a ds e' h' R q => by
  obtain ⟨d, e1, h1, h2⟩ := dBind_some h'
  split at h2
  · rename_i xs ys
    obtain ⟨rfl, rfl⟩ := dK_some h2
    refine h W hW σ e B H a _ e' h1 _ fun vs B1 H1 a1 g1 d1 => ?_
    cases d1 with
    | cons hv hr =>
      cases hr with
      | cons hv2 hr =>
        cases hr
        obtain ⟨p, us, rfl, k1, k2⟩ := hv.lst_of
        obtain ⟨p2, ws, rfl, k3, k4⟩ := hv2.lst_of
        refine ⟨p, p2, us, ws, rfl, ex_l a1.ex k1, ex_l a1.ex k3, q _ B1 H1 a1 g1 (wk_of (walk_zip rfl) ?_ (fun H2 e2 => ⟨ex_l e2 k1, ex_l e2 k3⟩) fun i d B2 H2 x H3 e2 e3 hi y => ?_)⟩
        · unfold zipD
          rw [List.length_zipWith, DpAll.length k2, DpAll.length k4]
        · obtain ⟨T, x', y', rfl, hT, rfl, hx, hy⟩ := y
          obtain ⟨dx, dy, m1, m2, rfl⟩ := zip_get xs ys i d hi
          obtain ⟨d1, n1, n2⟩ := k2.get hx
          obtain ⟨d2, n3, n4⟩ := k4.get hy
          rw [m1] at n1
          rw [m2] at n3
          cases n1
          cases n3
          have gr : Gr B2 H2 (upd B2 T (.tup [x', y'])) (upd H2 T (.tup [x', y'])) := Gr.new e3 hT
          exact ⟨_, gr, .tup (st_of upd_same) (.cons (dp_mono (e2.trans gr.hg) n2) (.cons (dp_mono (e2.trans gr.hg) n4) .nil))⟩
  · cases h2

/-! ### a, b = data, a new list -/
inductive Ar where
  | d (x : PyData)
  | l (xs : List PyData)
/-- values at hand: data is known, each new list stands apart, where ok lets it -/
def HvAll (K : PySem.W.Frag) (B H : Hp) : (Addr → Prop) → List V → List Ar → Prop
  | _, [], [] => True
  | ok, v :: vs, .d x :: as => Dp K B v x ∧ HvAll K B H ok vs as
  | ok, v :: vs, .l xs :: as => ∃ (p : Addr) (us : List V), v = V.ref p ∧ ok p ∧ H p = some (.lst us) ∧ B p = none ∧ DpAll K B us xs ∧ HvAll K B H (fun b => ok b ∧ b ≠ p) vs as
  | _, _, _ => False
theorem hv_mono {B H : Hp} : ∀ {vs : List V} {as : List Ar} {ok ok' : Addr → Prop}, (∀ b, ok b → ok' b) → HvAll K B H ok vs as → HvAll K B H ok' vs as
  | [], [], _, _, _, _ => trivial
  | v :: vs, .d x :: as, _, _, h, ⟨h1, h2⟩ => ⟨h1, hv_mono h h2⟩
  | v :: vs, .l xs :: as, _, _, h, ⟨p, us, h1, h2, h3, h4, h5, h6⟩ => ⟨p, us, h1, h p h2, h3, h4, h5, hv_mono (fun b hb => ⟨h b hb.1, hb.2⟩) h6⟩
  | [], _ :: _, _, _, _, h => h.elim
  | _ :: _, [], _, _, _, h => h.elim
def SX (K : PySem.W.Frag) (ta : TA) (f : Dn (List Ar)) : Prop := ∀ (W : Wo), W.K = K → ∀ (σ : L2.St) (e : En) (B H : Hp), At W σ e B H → ∀ as e', f e = some (as, e') →
  ∀ Q : List V → Hp → Prop, (∀ vs B' H', At W σ e' B' H' → Gx σ e B H e' B' H' → HvAll K B' H' (fun b => H b = none) vs as → Q vs H') → ta σ H Q
def xNil : Dn (List Ar) := dK []
def xCons (f : Dn PyData) (g : Dn (List Ar)) : Dn (List Ar) := dBind f fun x => dBind g fun xs => dK (.d x :: xs)
def xConsL (f : Dn (List PyData)) (g : Dn (List Ar)) : Dn (List Ar) := dBind f fun x => dBind g fun xs => dK (.l x :: xs)
theorem sx_nil : SX K tNil xNil := fun W hW σ e B H a as e' h Q q => by
  obtain ⟨rfl, rfl⟩ := dK_some h
  exact q [] B H a (.refl _ _ _ _) trivial
theorem sx_cons {tr : TA} {k : Dn (List Ar)} (h : SE K te f) (hr : SX K tr k) : SX K (tCons te tr) (xCons f k) := fun W hW σ e B H a as e' h' Q q => by
  obtain ⟨x, e1, h1, h2⟩ := dBind_some h'
  obtain ⟨xs, e2, h3, h4⟩ := dBind_some h2
  obtain ⟨rfl, rfl⟩ := dK_some h4
  refine h W hW σ e B H a x e1 h1 _ fun v B1 H1 a1 g1 d1 => hr W hW σ e1 B1 H1 a1 xs e' h3 _ fun vs B2 H2 a2 g2 d2 => ?_
  exact q (v :: vs) B2 H2 a2 (g1.trans g2) ⟨dp_mono g2.go.hg d1, hv_mono (fun b hb => g1.go.dm b hb) d2⟩
theorem sx_consL {tr : TA} {k : Dn (List Ar)} (h : SL K te fl) (hr : SX K tr k) : SX K (tCons te tr) (xConsL fl k) := fun W hW σ e B H a as e' h' Q q => by
  obtain ⟨x, e1, h1, h2⟩ := dBind_some h'
  obtain ⟨xs, e2, h3, h4⟩ := dBind_some h2
  obtain ⟨rfl, rfl⟩ := dK_some h4
  refine h W hW σ e B H a x e1 h1 _ fun r rs B1 H1 a1 g1 r0 hr1 rB d1 => hr W hW σ e1 B1 H1 a1 xs e' h3 _ fun vs B2 H2 a2 g2 d2 => ?_
  have nor : ¬ Ow σ e1 r := fun z => (a.ow (g1.ow r z)).2.1 r0
  have ner : H1 r ≠ none := by rw [hr1]; exact fun z => nomatch z
  exact q (.ref r :: vs) B2 H2 a2 (g1.trans g2) ⟨r, rs, rfl, r0, g2.go.fr r _ nor hr1, g2.go.sp r nor rB ner, dpa_mono g2.go.hg d1, hv_mono (fun b hb => ⟨g1.go.dm b hb, fun z => by subst z; exact ner hb⟩) d2⟩
def sSetsX : List Nat → List Ar → En → Option En
  | [], [], e => some e
  | i :: is, .d d :: ds, e => match setD i d e with
    | some e1 => sSetsX is ds e1
    | none => none
  | i :: is, .l d :: ds, e => match setO i d e with
    | some e1 => sSetsX is ds e1
    | none => none
  | _, _, _ => none
def sParX (f : Dn (List Ar)) (is : List Nat) : Ds := fun e => match f e with
  | some (ds, e1) => (sSetsX is ds e1).map .nx
  | none => none
theorem ow_setO {σ : L2.St} {e : En} {i : Nat} {p b : Addr} {xs : List PyData} (h : Ow (σ.set i (some (.ref p))) (e.set i (.o xs)) b) : Ow σ e b ∨ b = p := by
  obtain ⟨j, s, ys, h1, h2, h3⟩ := h
  rcases set_cases h1 with ⟨rfl, rfl, hl⟩ | ⟨c, h⟩
  · have hl2 : j < (σ.set j (some (V.ref p))).length := (List.getElem?_eq_some_iff.mp h3).1
    rw [List.length_set] at hl2
    rw [List.getElem?_set_self hl2] at h3
    cases h3
    exact .inr rfl
  · rw [List.getElem?_set_ne (Ne.symm c)] at h3
    exact .inl ⟨j, s, ys, h, h2, h3⟩
theorem setsX_ok {W : Wo} : ∀ (is : List Nat) (vs : List V) (ds : List Ar) (σ : L2.St) (e e' : En) (B H : Hp) (ok : Addr → Prop), At W σ e B H → HvAll W.K B H ok vs ds → (∀ b, ok b → W.M b ∧ ¬ Ow σ e b) →
    sSetsX is ds e = some e' → is.length = vs.length ∧ ∃ σ', σ' = (is.zip vs).foldl (fun s p => s.set p.1 (some p.2)) σ ∧ At W σ' e' B H
  | [], [], [], σ, e, e', B, H, ok, a, _, _, h => by
    cases h
    exact ⟨rfl, σ, rfl, a⟩
  | i :: is, v :: vs, .d d :: ds, σ, e, e', B, H, ok, a, ⟨hv, ha⟩, hM, h => by
    unfold sSetsX at h
    split at h
    · rename_i e1 h1
      unfold setD at h1
      split at h1
      · rename_i c
        cases h1
        obtain ⟨h0, σ', h2, h3⟩ := setsX_ok is vs ds _ _ e' B H ok (a.setD (can_pn a c) hv) ha (fun b hb => ⟨(hM b hb).1, fun z => (hM b hb).2 (ow_setD z)⟩) h
        exact ⟨congrArg Nat.succ h0, σ', h2, h3⟩
      · cases h1
    · cases h
  | i :: is, v :: vs, .l d :: ds, σ, e, e', B, H, ok, a, ⟨p, us, hv, k1, k2, k3, k4, ha⟩, hM, h => by
    unfold sSetsX at h
    split at h
    · rename_i e1 h1
      unfold setO at h1
      split at h1
      · rename_i c
        cases h1
        subst hv
        obtain ⟨h0, σ', h2, h3⟩ := setsX_ok is vs ds _ _ e' B H _ (a.setO (can_pn a c) (hM p k1).2 (hM p k1).1 k3 k2 k4) ha (fun b hb => ⟨(hM b hb.1).1, fun z => (ow_setO z).elim (hM b hb.1).2 hb.2⟩) h
        exact ⟨congrArg Nat.succ h0, σ', h2, h3⟩
      · cases h1
    · cases h
  | [], _, _ :: _, σ, e, e', B, H, ok, a, hd, _, h => by cases h
  | _ :: _, _, [], σ, e, e', B, H, ok, a, hd, _, h => by cases h
  | [], _ :: _, [], σ, e, e', B, H, ok, a, hd, _, h => hd.elim
  | _ :: _, [], _ :: _, σ, e, e', B, H, ok, a, hd, _, h => hd.elim
theorem ss_parX {i j : Nat} {fx : Dn (List Ar)} (h : SX K tr fx) : SS K (tPar i j tr) (sParX fx [i, j]) := fun W hW σ e B H a r hr D q => by
  unfold sParX at hr
  split at hr
  · rename_i ds e1 h1
    obtain ⟨e2, h2, rfl⟩ := Option.map_eq_some_iff.mp hr
    refine h W hW σ e B H a ds e1 h1 _ fun vs B1 H1 a1 g1 d1 => ?_
    obtain ⟨h0, _, rfl, k2⟩ := setsX_ok [i, j] vs ds σ e1 e2 B1 H1 _ a1 (hW ▸ d1) (fun b hb => ⟨a.nm b hb, fun z => (a.ow (g1.ow b z)).2.1 hb⟩) h2
    match vs, h0 with
    | [v, w], _ => exact ⟨v, w, rfl, q _ B1 H1 k2 (a.goM g1)⟩
  · cases hr
theorem ss_parX3 {i j l : Nat} {fx : Dn (List Ar)} (h : SX K tr fx) : SS K (tPar3 i j l tr) (sParX fx [i, j, l]) := fun W hW σ e B H a r hr D q => by
  unfold sParX at hr
  split at hr
  · rename_i ds e1 h1
    obtain ⟨e2, h2, rfl⟩ := Option.map_eq_some_iff.mp hr
    refine h W hW σ e B H a ds e1 h1 _ fun vs B1 H1 a1 g1 d1 => ?_
    obtain ⟨h0, _, rfl, k2⟩ := setsX_ok [i, j, l] vs ds σ e1 e2 B1 H1 _ a1 (hW ▸ d1) (fun b hb => ⟨a.nm b hb, fun z => (a.ow (g1.ow b z)).2.1 hb⟩) h2
    match vs, h0 with
    | [v, w, z], _ => exact ⟨v, w, z, rfl, q _ B1 H1 k2 (a.goM g1)⟩
  · cases hr
/-! ### a new list that is handed over to be changed -/
theorem At.stepN {W : Wo} {σ : L2.St} {e : En} {B H : Hp} (a : At W σ e B H) {p : Addr} {B' H' : Hp} (no : ¬ Ow σ e p) (g : Go (fun b => b = p) B H B' H') (x : Ex B' H') : At W σ e B' H' where
  ex := x
  nm := fun b hb => a.nm b (g.dm b hb)
  len := a.len
  dat := fun i y h => by
    obtain ⟨v, k1, k2⟩ := a.dat i y h
    exact ⟨v, k1, dp_mono g.hg k2⟩
  own := fun j t zs h h2 => by
    obtain ⟨q, us', k1, k2, k3, k4, k5⟩ := a.own j t zs h h2
    have qp : ¬ q = p := fun z => by
      subst z
      exact no ⟨j, t, zs, h, h2, k1⟩
    exact ⟨q, us', k1, k2, g.sp q qp k3 (by rw [k4]; exact fun z => nomatch z), g.fr q _ qp k4, dpa_mono g.hg k5⟩
  sep := a.sep
  pin := a.pin
def dCallN {α : Type} (n : Nat) (F : List PyData → List PyData → Option (α × List PyData)) (fx fl : Dn (List PyData)) : Dn α := dBind fx fun xs => dBind fl fun ds => if ds.length + 1 = n then dLift ((F xs ds).map Prod.fst) else fun _ => none
theorem go_new {σ : L2.St} {e : En} {p : Addr} {B0 H0 B H B' H' : Hp} (g0 : Go (Ow σ e) B0 H0 B H) (p0 : H0 p = none) (g : Go (fun b => b = p) B H B' H') : Go (Ow σ e) B0 H0 B' H' :=
  ⟨g0.hg.trans g.hg, fun b o hb h => g.fr b o (fun z => by
    subst z
    rw [p0] at h
    cases h) (g0.fr b o hb h), fun b h => g0.dm b (g.dm b h), fun b hb h1 h2 => g.sp b (fun z => by
    subst z
    exact h2 p0) (g0.sp b hb h1 h2) fun z => h2 (g0.dm b z)⟩
theorem se_callN {n : Nat} {F : List PyData → List PyData → Option (PyData × List PyData)} {E : XK} (hx : SL K te fk) (h : SA K tr fl) : SE K (tCall (spM K n F) [] E (tCons te tr)) (dCallN n F fk fl) := fun W hW σ e B H a d e' h' Q q => by
  obtain ⟨xs, e1, h1, k1⟩ := dBind_some h'
  obtain ⟨ds, e2, h2, k2⟩ := dBind_some k1
  split at k2
  · rename_i hl
    obtain ⟨k3, rfl⟩ := dLift_some k2
    obtain ⟨⟨d', ys⟩, hF, rfl⟩ := Option.map_eq_some_iff.mp k3
    refine hx W hW σ e B H a xs e1 h1 _ fun p us B1 H1 a1 g1 p0 hp pB d1 => h W hW σ e1 B1 H1 a1 ds e' h2 _ fun vs B2 H2 a2 g2 d2 => ?_
    have nop : ¬ Ow σ e1 p := fun z => (a.ow (g1.ow p z)).2.1 p0
    refine ⟨B2, p, us, vs, xs, ds, d', ys, by rw [List.append_nil], a2.ex, g2.go.sp p nop pB (by rw [hp]; exact fun z => nomatch z), g2.go.fr p _ nop hp, dpa_mono g2.go.hg d1, hl, d2, hF, fun v us' B3 H3 g3 x3 _ _ _ dv => ?_⟩
    exact q v B3 H3 (a2.stepN (fun z => nop (g2.ow p z)) g3 x3) ⟨go_new (g1.trans g2).go p0 g3, (g1.trans g2).ow⟩ dv
  · cases k2
theorem sl_callN {n : Nat} {F : List PyData → List PyData → Option (List PyData × List PyData)} {E : XK} (hx : SL K te fk) (h : SA K tr fl) : SL K (tCall (spML K n F) [] E (tCons te tr)) (dCallN n F fk fl) := fun W hW σ e B H a d e' h' Q q => by
  obtain ⟨xs, e1, h1, k1⟩ := dBind_some h'
  obtain ⟨ds, e2, h2, k2⟩ := dBind_some k1
  split at k2
  · rename_i hl
    obtain ⟨k3, rfl⟩ := dLift_some k2
    obtain ⟨⟨d', ys⟩, hF, rfl⟩ := Option.map_eq_some_iff.mp k3
    refine hx W hW σ e B H a xs e1 h1 _ fun p us B1 H1 a1 g1 p0 hp pB d1 => h W hW σ e1 B1 H1 a1 ds e' h2 _ fun vs B2 H2 a2 g2 d2 => ?_
    have nop : ¬ Ow σ e1 p := fun z => (a.ow (g1.ow p z)).2.1 p0
    refine ⟨B2, p, us, vs, xs, ds, d', ys, by rw [List.append_nil], a2.ex, g2.go.sp p nop pB (by rw [hp]; exact fun z => nomatch z), g2.go.fr p _ nop hp, dpa_mono g2.go.hg d1, hl, d2, hF, fun r rs us' B3 H3 g3 x3 _ _ _ r0 hr rB rd => ?_⟩
    exact q r rs B3 H3 (a2.stepN (fun z => nop (g2.ow p z)) g3 x3) ⟨go_new (g1.trans g2).go p0 g3, (g1.trans g2).ow⟩ ((g1.trans g2).go.dm r r0) hr rB rd
  · cases k2
/-- the law: a script of at most 63 ints -/
def spLaw (K : PySem.W.Frag) : Sp := fun vs H Q _ => ∃ (a : Addr) (ns : List Int), vs = [V.ref a] ∧ SqL K H a (ns.map V.int) ∧ ns.length ≤ 63 ∧ ∀ H', Q (.bl true) H'
theorem body_law {t : TS} {F : Ds} {N : List Str} {n : Nat} {H : Hp} {vs : List V} {Q : VK} {E : XK} (h : SS K t F) (hn : N.length = 1 + n) (ht : ∀ ns : List Int, ns.length ≤ 63 → fnD n F [.list (ns.map .int)] = some (.bool true)) (hs : spLaw K vs H Q E) : t { nx := fun _ H' => Q .non H', rt := Q } (L2.start N vs) H := by
  obtain ⟨a, ns, rfl, hS, hl, q⟩ := hs
  refine body_F (E := E) h hn ⟨H, [.list (ns.map .int)], .bool true, Ex.refl H, rfl, .one (.lst hS (DpAll.of_ints ns)), ht ns hl, fun v B' H' g hv => ?_⟩
  rw [hv.bl_of]
  exact q H'
end
end Fd
end

section
set_option Elab.async false
set_option linter.all false
set_option maxRecDepth 100000
set_option maxHeartbeats 1000000
/-! Walks by meaning 10: the rules, the constants given. -/
namespace Fd
open PySem PySem.Spec PyProof.Rows L2 Evl Tb
section
variable {X : Cx} {K : PySem.W.Frag}
theorem ok_addU (h : X.K = K) : OpR X (binaryOp .Add) (rAddU K) := h ▸ op_addU
theorem ok_mulU (h : X.K = K) : OpR X (binaryOp .Mult) (rMulU K) := h ▸ op_mulU
theorem ok_eqD (h : X.K = K) (hu : X.A.units + 64 < cLine) : OpR X (compareOp .Eq) (rEqD K) := h ▸ op_eqD hu
theorem ok_neD (h : X.K = K) (hu : X.A.units + 64 < cLine) : OpR X (compareOp .NotEq) (rNeD K) := h ▸ op_neD hu
theorem ok_inD (h : X.K = K) (hu : X.A.units + 65 < cLine) : OpR X (compareOp .In) (rInD K) := h ▸ op_inD hu
theorem ok_notInD (h : X.K = K) (hu : X.A.units + 65 < cLine) : OpR X (compareOp .NotIn) (rNotInD K) := h ▸ op_notInD hu
theorem ixk_seq (h : X.K = K) : IxR X (rIx K) := h ▸ ix_seq
theorem slk_sliceU (h : X.K = K) : SlR X (rSlU K) := h ▸ sl_sliceU
theorem ck_lenU (h : X.K = K) : CallR X (.builtin "len") (rLenU K) := h ▸ call_lenU
theorem ck_tupU (h : X.K = K) : CallR X (.type "tuple") (rTupU K) := h ▸ call_tupU
theorem ck_lstU (h : X.K = K) : CallR X (.type "list") (rLstU K) := call_lstU h
theorem ck_sum (h : X.K = K) (hc : X.calm = true) : CallR X (.builtin "sum") (rSum K) := h ▸ cr_sum hc
theorem ck_max (h : X.K = K) (hc : X.calm = true) : CallR X (.builtin "max") (rMax K) := h ▸ cr_max hc
theorem ck_min (h : X.K = K) (hc : X.calm = true) : CallR X (.builtin "min") (rMin K) := h ▸ cr_min hc
theorem ck_all (h : X.K = K) (hc : X.calm = true) : CallR X (.builtin "all") (rAll K) := h ▸ cr_all hc
theorem ck_any (h : X.K = K) (hc : X.calm = true) : CallR X (.builtin "any") (rAny K) := h ▸ cr_any hc
theorem ck_sortedI (h : X.K = K) : CallR X (.builtin "sorted") (rSortedI K) := h ▸ cr_sortedI
theorem ck_maxDfU (h : X.K = K) (hc : X.calm = true) (hu : X.A.units + 64 < cLine) : CallRK X (.builtin "max") [Str.ofString "default"] (rMaxDfU K) := h ▸ cr_maxDfU hc hu
theorem ck_isi (h : X.K = K) : CallR X (.builtin "isinstance") (rIsi K) := h ▸ call_isi
theorem ck_isiT (h : X.K = K) : CallR X (.builtin "isinstance") (rIsiT K) := h ▸ call_isiT
theorem ptk_truU (h : X.K = K) {a : Expr} {ta : TE} (ha : PE X a ta) (he : ∀ whole, isTrue a X.env whole = (do let v ← whole; standAt a.pos; holding [v] (truthy v)) := by intro _; rfl) : PT X a (tTruU K ta) := h ▸ pt_truU ha he
theorem mk_extU (h : X.K = K) : MtM X "list.extend" (rExtU K) := h ▸ mt_extU
theorem pgk_row (h : X.K = K) {pos : Pos} {es : List Expr} {k : Nat} {t : TGs} {n : Nat} (hc : X.calm = true) (hg : PGs X es t)
    (hn : (assignEach es X.env).length = n := by rfl) (hst : (assignEach es X.env).findIdx? (·.1) = none := by rfl) : PG X (.Tuple es k pos) (gRow K n t) := h ▸ pg_row hc hg hn hst
theorem pik_row (h : X.K = K) {tg l : Expr} {tl : TE} (hl : PE X l tl) : PI X tg l (iRow K tl) := h ▸ pi_row hl
end
/-! ### a list of one's own that is compared -/
def isScal : PyData → Bool
  | .none => true
  | .bool _ => true
  | .int _ => true
  | .str _ => true
  | _ => false
theorem scal_dp {K : PySem.W.Frag} {B B' : Hp} {v : V} {d : PyData} (h : isScal d = true) (hd : Dp K B v d) : Dp K B' v d := by
  cases hd with
  | non => exact .non
  | bl b => exact .bl b
  | int i => exact .int i
  | str x => exact .str x
  | lst _ _ => cases h
  | tup _ _ => cases h
def dOpV (F : PyData → PyData → Option PyData) (i : Nat) (g : Dn PyData) : Dn PyData := fun e => match ownL e i with
  | none => dOp F (dVar i) g e
  | some _ => match g e with
    | none => none
    | some (y, e1) => match ownL e1 i with
      | none => none
      | some xs => match F (.list xs) y with
        | none => none
        | some z => if isScal z = true then some (z, e1) else none
def dOpW (F : PyData → PyData → Option PyData) (f : Dn PyData) (j : Nat) : Dn PyData := fun e => match f e with
  | none => none
  | some (x, e1) => match ownL e1 j with
    | none => dBind (dVar j) (fun y => dLift (F x y)) e1
    | some ys => match F x (.list ys) with
      | none => none
      | some z => if isScal z = true then some (z, e1) else none
section
variable {K : PySem.W.Frag} {ta tb : TE} {f g : Dn PyData} {r : R2} {F : PyData → PyData → Option PyData}
theorem gr_back {B H G H2 : Hp} {p : Addr} {us : List V} (x : Ex B H) (h : Gr (upd B p (.lst us)) H G H2) : Gr B H B H2 := .ex x h.h12
theorem ex_put {B H : Hp} {p : Addr} {us : List V} (x : Ex B H) (h : H p = some (.lst us)) : Ex (upd B p (.lst us)) H := fun b o hb => by
  by_cases c : b = p
  · subst c
    rw [upd_same] at hb
    cases hb
    exact h
  · rw [upd_ne c] at hb
    exact x b o hb
theorem se_opV {i : Nat} (hr : ∀ B x y z, F x y = some z → RD K r x y B z) (hb : SE K tb g) : SE K (tOp r (tVar i) tb) (dOpV F i g) := fun W hW σ e B H a d e' h Q q => by
  unfold dOpV at h
  split at h
  · exact se_op hr se_var hb W hW σ e B H a d e' h Q q
  rename_i xs0 ho
  split at h
  · cases h
  rename_i y e1 h1
  split at h
  · cases h
  rename_i xs ho1
  split at h
  · cases h
  rename_i z hF
  by_cases hz : isScal z = true
  case neg =>
    rw [if_neg hz] at h
    cases h
  rw [if_pos hz] at h
  cases h
  obtain ⟨s0, i0, o0⟩ := ownL_some ho
  obtain ⟨s1, i1, o1⟩ := ownL_some ho1
  obtain ⟨p, us0, k1, _⟩ := own_at a i0 o0
  refine ⟨.ref p, k1, hb W hW σ e B H a _ e' h1 _ fun w B1 H1 a1 g1 d1 => ?_⟩
  obtain ⟨p', us, k2, k3, k4, k5⟩ := own_at a1 i1 o1
  rw [k1] at k2
  cases k2
  rw [hW] at k5
  refine hr (upd B1 p (.lst us)) _ _ _ hF _ _ H1 (ex_put a1.ex k4) (.lst (sq_of upd_same) (dpa_mono (Ex.new k3) k5)) (dp_mono (Ex.new k3) d1) Q fun v G H3 g3 hd => ?_
  have gb := gr_back a1.ex g3
  exact q v B1 H3 (a1.gr gb) (g1.trans (gx_gr gb)) (scal_dp hz hd)
theorem se_opW {j : Nat} (hr : ∀ B x y z, F x y = some z → RD K r x y B z) (ha : SE K ta f) : SE K (tOp r ta (tVar j)) (dOpW F f j) := fun W hW σ e B H a d e' h Q q => by
  unfold dOpW at h
  split at h
  · cases h
  rename_i x e1 h1
  split at h
  · have h2 : dOp F f (dVar j) e = some (d, e') := by
      unfold dOp
      conv => lhs; unfold dBind
      rw [h1]
      exact h
    exact se_op hr ha se_var W hW σ e B H a d e' h2 Q q
  rename_i ys ho
  split at h
  · cases h
  rename_i z hF
  by_cases hz : isScal z = true
  case neg =>
    rw [if_neg hz] at h
    cases h
  rw [if_pos hz] at h
  cases h
  obtain ⟨s0, i0, o0⟩ := ownL_some ho
  refine ha W hW σ e B H a _ e' h1 _ fun w B1 H1 a1 g1 d1 => ?_
  obtain ⟨p, us, k2, k3, k4, k5⟩ := own_at a1 i0 o0
  rw [hW] at k5
  refine ⟨.ref p, k2, hr (upd B1 p (.lst us)) _ _ _ hF _ _ H1 (ex_put a1.ex k4) (dp_mono (Ex.new k3) d1) (.lst (sq_of upd_same) (dpa_mono (Ex.new k3) k5)) Q fun v G H3 g3 hd => ?_⟩
  have gb := gr_back a1.ex g3
  exact q v B1 H3 (a1.gr gb) (g1.trans (gx_gr gb)) (scal_dp hz hd)
theorem se_eqV {i : Nat} (hb : SE K tb g) : SE K (tOp (rEqD K) (tVar i) tb) (dOpV eqD i g) := se_opV (fun B => rf_eq) hb
theorem se_neV {i : Nat} (hb : SE K tb g) : SE K (tOp (rNeD K) (tVar i) tb) (dOpV neD i g) := se_opV (fun B => rf_ne) hb
theorem se_eqW {j : Nat} (ha : SE K ta f) : SE K (tOp (rEqD K) ta (tVar j)) (dOpW eqD f j) := se_opW (fun B => rf_eq) ha
theorem se_neW {j : Nat} (ha : SE K ta f) : SE K (tOp (rNeD K) ta (tVar j)) (dOpW neD f j) := se_opW (fun B => rf_ne) ha
theorem se_inW {j : Nat} (ha : SE K ta f) : SE K (tOp (rInD K) ta (tVar j)) (dOpW (inD false) f j) := se_opW (fun B => rf_in) ha
theorem se_notInW {j : Nat} (ha : SE K ta f) : SE K (tOp (rNotInD K) ta (tVar j)) (dOpW (inD true) f j) := se_opW (fun B => rf_notIn) ha
end
end Fd
end

section
set_option Elab.async false
set_option linter.all false
set_option maxRecDepth 100000
set_option maxHeartbeats 1000000
/-! Walks by meaning 11: how meanings are reckoned with. -/
namespace Fd
open PySem PySem.Spec PyProof.Rows L2 Evl Tb

@[simp] theorem dK_e {α : Type} (x : α) (e : En) : dK x e = some (x, e) := rfl
@[simp] theorem sNext_e (e : En) : (fun e : En => some (Rs.nx e)) e = some (.nx e) := rfl
section
variable {α β : Type} {f g k : Dn PyData} {fl fk : Dn (List PyData)} {c c2 : Dn Bool} {F G : PyData → PyData → Option PyData} {e : En} {A C : Ds}
@[simp] theorem dBind_e {f : Dn α} {g : α → Dn β} : dBind f g e = (match f e with
  | some (x, e1) => g x e1
  | none => none) := rfl
@[simp] theorem dLift_e {o : Option α} : dLift o e = (match o with
  | some x => some (x, e)
  | none => none) := rfl
@[simp] theorem dVar_e {i : Nat} : dVar i e = (match e[i]? with
  | some (.d x) => some (x, e)
  | some (.o xs) => some (.list xs, e.set i (.d (.list xs)))
  | _ => none) := rfl
@[simp] theorem dOp_e : dOp F f g e = dBind f (fun x => dBind g fun y => dLift (F x y)) e := rfl
@[simp] theorem dUn_e {F : PyData → Option PyData} : dUn F f e = dBind f (fun x => dLift (F x)) e := rfl
@[simp] theorem dCons_e : dCons f fl e = dBind f (fun x => dBind fl fun xs => dK (x :: xs)) e := rfl
@[simp] theorem dIf_e {f g : Dn α} : dIf c f g e = dBind c (fun b => if b = true then f else g) e := rfl
@[simp] theorem dAnd_e : dAnd f g e = dBind f (fun x => match x with
  | .bool true => dBind g fun y => match y with
    | .bool b => dK (.bool b)
    | _ => fun _ => none
  | .bool false => dK (.bool false)
  | _ => fun _ => none) e := rfl
@[simp] theorem dOr_e : dOr f g e = dBind f (fun x => match x with
  | .bool false => dBind g fun y => match y with
    | .bool b => dK (.bool b)
    | _ => fun _ => none
  | .bool true => dK (.bool true)
  | _ => fun _ => none) e := rfl
@[simp] theorem dNot_e : dNot f e = dBind f (fun x => match x with
  | .bool b => dK (.bool (!b))
  | _ => fun _ => none) e := rfl
@[simp] theorem dTest_e : dTest f e = dBind f (fun x => match x with
  | .bool b => dK b
  | _ => fun _ => none) e := rfl
@[simp] theorem dAndT_e : dAndT c c2 e = dBind c (fun b => if b = true then c2 else dK false) e := rfl
@[simp] theorem dOrT_e : dOrT c c2 e = dBind c (fun b => if b = true then dK true else c2) e := rfl
@[simp] theorem dNotT_e : dNotT c e = dBind c (fun b => dK (!b)) e := rfl
@[simp] theorem dTru_e : dTru f e = dBind f (fun x => dLift (truD x)) e := rfl
@[simp] theorem dFz_e : dFz fl e = dBind fl (fun ds => dK (.list ds)) e := rfl
@[simp] theorem dTup_e : dTup fl e = dBind fl (fun ds => if small ds = true then dK (.tuple ds) else fun _ => none) e := rfl
@[simp] theorem dLst_e : dLst fl e = dBind fl (fun ds => if small ds = true then dK ds else fun _ => none) e := rfl
@[simp] theorem dItems_e : dItems f e = dBind f (fun d => dLift (itemsOf d)) e := rfl
@[simp] theorem dCall_e {n : Nat} {F : List PyData → Option PyData} {dds : List PyData} : dCall n F dds fl e = dBind fl (fun ds => if (ds ++ dds).length = n then dLift (F (ds ++ dds)) else fun _ => none) e := rfl
@[simp] theorem dCallL_e {n : Nat} {F : List PyData → Option (List PyData)} {dds : List PyData} : dCallL n F dds fl e = dBind fl (fun ds => if (ds ++ dds).length = n then dLift (F (ds ++ dds)) else fun _ => none) e := rfl
@[simp] theorem dPart_e : dPart f e = dBind f (fun x => match x with
  | .int i => dK (some i)
  | _ => fun _ => none) e := rfl
@[simp] theorem dRg1_e : dRg1 fl e = dBind fl (fun ds => match ds with
  | [.int n] => if big n = true then dK (rgD 0 n.toNat) else fun _ => none
  | _ => fun _ => none) e := rfl
@[simp] theorem dRg2_e : dRg2 fl e = dBind fl (fun ds => match ds with
  | [.int i, .int j] => if (big i && big j) = true then dK (rgD i (j - i).toNat) else fun _ => none
  | _ => fun _ => none) e := rfl
@[simp] theorem dEnum_e : dEnum fl e = dBind fl (fun ds => match ds with
  | [d] => dLift ((itemsOf d).map (enD 0))
  | _ => fun _ => none) e := rfl
@[simp] theorem dChain_e : dChain F G f g k e = dBind f (fun x => dBind g fun y => dBind (dLift (F x y)) fun z => match z with
  | .bool true => dBind k fun w => dLift (G y w)
  | .bool false => dK (.bool false)
  | _ => fun _ => none) e := rfl
@[simp] theorem sSeq_e : sSeq A C e = (match A e with
  | some (.nx e1) => C e1
  | r => r) := rfl
@[simp] theorem sIf_e : sIf c A C e = (match c e with
  | some (b, e1) => if b = true then A e1 else C e1
  | none => none) := rfl
@[simp] theorem sAsg_e {g : PyData → En → Option En} : sAsg f g e = (match f e with
  | some (d, e1) => (g d e1).map .nx
  | none => none) := rfl
@[simp] theorem sAsgO_e {i : Nat} : sAsgO fl i e = (match fl e with
  | some (d, e1) => (setO i d e1).map .nx
  | none => none) := rfl
@[simp] theorem sRet_e : sRet f e = (f e).map fun r => .rt r.1 r.2 := rfl
@[simp] theorem sRetL_e : sRetL fl e = (fl e).map fun r => .rl r.1 r.2 := rfl
@[simp] theorem sDrop_e : sDrop f e = (f e).map fun r => .nx r.2 := rfl
@[simp] theorem sFor_e {g : PyData → En → Option En} : sFor fl g A e = (match fl e with
  | some (ds, e1) => runFor g A ds e1
  | none => none) := rfl
@[simp] theorem dName_e {i : Nat} {d : PyData} : dName i d e = setD i d e := rfl
@[simp] theorem dNil_e : dNil [] e = some e := rfl
@[simp] theorem dGs_e {f : PyData → En → Option En} {g : List PyData → En → Option En} {d : PyData} {ds : List PyData} : dGs f g (d :: ds) e = (match f d e with
  | some e1 => g ds e1
  | none => none) := rfl
@[simp] theorem dRow_e {n : Nat} {g : List PyData → En → Option En} {d : PyData} : dRow n g d e = (match itemsOf d with
  | some xs => if xs.length = n then g xs e else none
  | none => none) := rfl
end
@[simp] theorem items_rowsD (b : Bool) (ds : List PyData) : itemsOf (rows b ds) = some ds := by cases b <;> rfl
@[simp] theorem items_list (ds : List PyData) : itemsOf (.list ds) = some ds := rfl
@[simp] theorem items_tuple (ds : List PyData) : itemsOf (.tuple ds) = some ds := rfl
@[simp] theorem len_rows (b : Bool) (ds : List PyData) : lenD [rows b ds] = some (.int ds.length) := by cases b <;> rfl
@[simp] theorem len_list (ds : List PyData) : lenD [.list ds] = some (.int ds.length) := rfl
@[simp] theorem len_tuple (ds : List PyData) : lenD [.tuple ds] = some (.int ds.length) := rfl
theorem ix_rows (b : Bool) (ds : List PyData) (i : Int) : ixD (rows b ds) (.int i) = atI ds i := by cases b <;> rfl
@[simp] theorem addD_int (i j : Int) : addD (.int i) (.int j) = some (.int (i + j)) := rfl
@[simp] theorem subD_int (i j : Int) : subD (.int i) (.int j) = some (.int (i - j)) := rfl
@[simp] theorem ltD_int (i j : Int) : ltD (.int i) (.int j) = some (.bool (decide (i < j))) := rfl
@[simp] theorem gtD_int (i j : Int) : gtD (.int i) (.int j) = some (.bool (decide (j < i))) := rfl
@[simp] theorem leD_int (i j : Int) : leD (.int i) (.int j) = some (.bool (decide (i ≤ j))) := rfl
@[simp] theorem geD_int (i j : Int) : geD (.int i) (.int j) = some (.bool (decide (j ≤ i))) := rfl
@[simp] theorem truD_bool (b : Bool) : truD (.bool b) = some b := rfl
@[simp] theorem notNon_int (i : Int) : notNonD (.int i) .none = some (.bool true) := rfl
@[simp] theorem notNon_none : notNonD .none .none = some (.bool false) := rfl
@[simp] theorem isNon_int (i : Int) : isNonD' (.int i) .none = some (.bool false) := rfl
@[simp] theorem isNon_none : isNonD' .none .none = some (.bool true) := rfl
@[simp] theorem negD_int (i : Int) : negD (.int i) = some (.int (-i)) := rfl
/-- a slot that may be set -/
def Fr (s : Sl) : Prop := s = .no ∨ ∃ x, s = .d x
theorem Fr.no : Fr .no := .inl rfl
theorem Fr.d {x : PyData} : Fr (.d x) := .inr ⟨x, rfl⟩
theorem at_nat {α : Type} {ds : List α} {i : Nat} {d : α} (h : ds[i]? = some d) : atI ds (i : Int) = some d := by
  have hi := (List.getElem?_eq_some_iff.mp h).1
  unfold atI ixN
  rw [if_pos (by omega), if_pos (by omega)]
  simpa using h
theorem at_0 {α : Type} (x : α) (xs : List α) : atI (x :: xs) 0 = some x := at_nat (i := 0) rfl
theorem at_1 {α : Type} (x y : α) (xs : List α) : atI (x :: y :: xs) 1 = some y := at_nat (i := 1) rfl
theorem at_2 {α : Type} (x y z : α) (xs : List α) : atI (x :: y :: z :: xs) 2 = some z := at_nat (i := 2) rfl
/-! ### is it an int, a row -/
def wholeD : PyData → Bool
  | .int _ => true
  | _ => false
def rowD : PyData → Bool
  | .list _ => true
  | .tuple _ => true
  | _ => false
@[simp] theorem isi_int (d : PyData) : isiD "int" d = some (.bool (match d with | .int _ => true | .bool _ => true | _ => false)) := by
  unfold isiD
  rw [kit_int]
  rfl
@[simp] theorem isi_bool (d : PyData) : isiD "bool" d = some (.bool (match d with | .bool _ => true | _ => false)) := by
  unfold isiD
  rw [kit_bool]
  rfl
@[simp] theorem isi_list (d : PyData) : isiD "list" d = some (.bool (match d with | .list _ => true | _ => false)) := by
  unfold isiD
  rw [kit_list]
  rfl
@[simp] theorem isi_tuple (d : PyData) : isiD "tuple" d = some (.bool (match d with | .tuple _ => true | _ => false)) := by
  unfold isiD
  rw [kit_tuple]
  rfl
@[simp] theorem isi_str (d : PyData) : isiD "str" d = some (.bool (match d with | .str _ => true | _ => false)) := by
  unfold isiD
  rw [kit_str]
  rfl
@[simp] theorem isi2_row (d : PyData) : isi2D "list" "tuple" d = some (.bool (rowD d)) := by
  unfold isi2D
  rw [kit_list, kit_tuple]
  cases d <;> rfl

/-! ### loops -/
theorem runFor_inv {g : PyData → En → Option En} {b : Ds} (P : Nat → En → Prop) : ∀ (ds : List PyData) (n : Nat) (e : En), P n e →
    (∀ i d e, ds[i]? = some d → P (n + i) e → ∃ e1 e2, g d e = some e1 ∧ (b e1 = some (.nx e2) ∨ b e1 = some (.ct e2)) ∧ P (n + i + 1) e2) → ∃ e', runFor g b ds e = some (.nx e') ∧ P (n + ds.length) e'
  | [], n, e, h, _ => ⟨e, rfl, h⟩
  | d :: ds, n, e, h, hs => by
    obtain ⟨e1, e2, h1, h2, h3⟩ := hs 0 d e rfl h
    obtain ⟨e', k1, k2⟩ := runFor_inv P ds (n + 1) e2 h3 fun i d' e'' hi hp => by
      have z := hs (i + 1) d' e'' hi (by rw [show n + (i + 1) = n + 1 + i by omega]; exact hp)
      rw [show n + (i + 1) + 1 = n + 1 + i + 1 by omega] at z
      exact z
    refine ⟨e', ?_, ?_⟩
    · unfold runFor
      rw [h1]
      rcases h2 with h2 | h2 <;> simp only [h2] <;> exact k1
    · rw [List.length_cons, show n + (ds.length + 1) = n + 1 + ds.length by omega]
      exact k2
/-- a loop that keeps a property of the slots, and never ends early -/
theorem runFor_all {g : PyData → En → Option En} {b : Ds} (P : En → Prop) {ds : List PyData} {e : En} (h0 : P e) (hs : ∀ d ∈ ds, ∀ e, P e → ∃ e1 e2, g d e = some e1 ∧ (b e1 = some (.nx e2) ∨ b e1 = some (.ct e2)) ∧ P e2) : ∃ e', runFor g b ds e = some (.nx e') ∧ P e' := by
  obtain ⟨e', h1, h2⟩ := runFor_inv (g := g) (b := b) (fun _ => P) ds 0 e h0 fun i d e hi hp => hs d (List.mem_of_getElem? hi) e hp
  exact ⟨e', h1, h2⟩
theorem runFor_cons_nx {g : PyData → En → Option En} {b : Ds} {d : PyData} {ds : List PyData} {e e1 e2 : En} (h1 : g d e = some e1) (h2 : b e1 = some (.nx e2)) : runFor g b (d :: ds) e = runFor g b ds e2 := by
  conv => lhs; unfold runFor
  rw [h1]
  simp only [h2]
theorem runFor_cons_ct {g : PyData → En → Option En} {b : Ds} {d : PyData} {ds : List PyData} {e e1 e2 : En} (h1 : g d e = some e1) (h2 : b e1 = some (.ct e2)) : runFor g b (d :: ds) e = runFor g b ds e2 := by
  conv => lhs; unfold runFor
  rw [h1]
  simp only [h2]
theorem runFor_cons_rt {g : PyData → En → Option En} {b : Ds} {d z : PyData} {ds : List PyData} {e e1 e2 : En} (h1 : g d e = some e1) (h2 : b e1 = some (.rt z e2)) : runFor g b (d :: ds) e = some (.rt z e2) := by
  conv => lhs; unfold runFor
  rw [h1]
  simp only [h2]
theorem whileN_inv {c : Dn Bool} {b : Ds} (P : Nat → En → Prop) : ∀ (n : Nat) (e : En), P n e → (∀ n e, P n e → (∃ e1, c e = some (false, e1)) ∨ ∃ e1 e2 m, c e = some (true, e1) ∧ (b e1 = some (.nx e2) ∨ b e1 = some (.ct e2)) ∧ m < n ∧ P m e2) → ∃ m e0 e1, P m e0 ∧ c e0 = some (false, e1) ∧ sWhile c b e = some (.nx e1) := by
  have key : ∀ (n : Nat), ∀ m, m ≤ n → ∀ (e : En), P m e → (∀ n e, P n e → (∃ e1, c e = some (false, e1)) ∨ ∃ e1 e2 m, c e = some (true, e1) ∧ (b e1 = some (.nx e2) ∨ b e1 = some (.ct e2)) ∧ m < n ∧ P m e2) → ∃ k m e0 e1, P m e0 ∧ c e0 = some (false, e1) ∧ whileN c b k e = some (.nx e1) := by
    intro n
    induction n with
    | zero =>
      intro m hm e hp hs
      rcases hs m e hp with ⟨e1, h1⟩ | ⟨e1, e2, m', _, _, h, _⟩
      · exact ⟨1, m, e, e1, hp, h1, by simp only [whileN, h1]⟩
      · omega
    | succ n ih =>
      intro m hm e hp hs
      rcases hs m e hp with ⟨e1, h1⟩ | ⟨e1, e2, m', h1, h2, h3, h4⟩
      · exact ⟨1, m, e, e1, hp, h1, by simp only [whileN, h1]⟩
      · obtain ⟨k, m2, e0, e3, p1, p2, p3⟩ := ih m' (by omega) e2 h4 hs
        refine ⟨k + 1, m2, e0, e3, p1, p2, ?_⟩
        rcases h2 with h2 | h2 <;> simp only [whileN, h1, h2] <;> exact p3
  intro n e hp hs
  obtain ⟨k, m, e0, e1, p1, p2, p3⟩ := key n n (Nat.le_refl _) e hp hs
  exact ⟨m, e0, e1, p1, p2, sWhile_eq p3⟩

/-! ### comprehensions whose parts only read -/
theorem runLc_map {g : PyData → En → Option En} {t : Dn Bool} {f : Dn PyData} {vs : List Nat} {e : En} (c : PyData → Option PyData) : ∀ {ds : List PyData},
    (∀ d ∈ ds, ∃ e1 e2, g d e = some e1 ∧ (match c d with
      | none => t e1 = some (false, e2) ∧ wipeE e2 vs = e
      | some y => ∃ e3, t e1 = some (true, e2) ∧ f e2 = some (y, e3) ∧ wipeE e3 vs = e)) → runLc g t f vs ds e = some (ds.filterMap c, e)
  | [], _ => rfl
  | d :: ds, h => by
    obtain ⟨e1, e2, h1, h2⟩ := h d (List.mem_cons_self ..)
    have ih := runLc_map c (ds := ds) fun d hd => h d (List.mem_cons_of_mem _ hd)
    unfold runLc
    rw [h1]
    cases hc : c d with
    | none =>
      rw [hc] at h2
      obtain ⟨h2, h3⟩ := h2
      simp only [h2, h3, ih, List.filterMap_cons, hc]
    | some y =>
      rw [hc] at h2
      obtain ⟨e3, h2, h3, h4⟩ := h2
      simp only [h2, h3, h4, ih, List.filterMap_cons, hc]
theorem dLc_map {it : Dn (List PyData)} {g : PyData → En → Option En} {t : Dn Bool} {f : Dn PyData} {vs : List Nat} {e e0 : En} {ds : List PyData} (c : PyData → Option PyData) (hi : it e0 = some (ds, e)) (hf : vsFree e vs = true) (hl : ds.length ≤ 40000) (hr : restE e (wipeE e vs) vs = e)
    (h : ∀ d ∈ ds, ∃ e1 e2, g d (wipeE e vs) = some e1 ∧ (match c d with
      | none => t e1 = some (false, e2) ∧ wipeE e2 vs = wipeE e vs
      | some y => ∃ e3, t e1 = some (true, e2) ∧ f e2 = some (y, e3) ∧ wipeE e3 vs = wipeE e vs)) : dLc it g t f vs e0 = some (ds.filterMap c, e) := by
  unfold dLc
  rw [hi]
  have hl' : fewer ds = true := decide_eq_true hl
  simp only [hf, hl', Bool.and_self, if_true, runLc_map c h, hr]

/-! ### data that is compared -/
/-- none, bools, ints, and rows of them, n deep -/
def okD : Nat → PyData → Bool
  | _, .none => true
  | _, .bool _ => true
  | _, .int _ => true
  | n + 1, .list xs => xs.all (okD n)
  | n + 1, .tuple xs => xs.all (okD n)
  | _, _ => false
theorem okD_out : ∀ (n : Nat) (d : PyData), okD n d = true → d.canLay0 = true ∧ d.depth ≤ n ∧ PyData.eqv d d = true := by
  intro n
  induction n with
  | zero =>
    intro d h
    cases d <;> first | (exfalso; exact Bool.noConfusion (show false = true from h)) | (refine ⟨?_, ?_, ?_⟩ <;> simp [PyData.canLay0, PyData.depth, PyData.eqv])
  | succ n ih =>
    have all : ∀ xs : List PyData, xs.all (okD n) = true → PyData.canLayAll0 xs = true ∧ PyData.depthAll xs ≤ n ∧ PyData.eqvAll xs xs = true := fun xs => by
      induction xs with
      | nil => exact fun _ => by simp [PyData.canLayAll0, PyData.depthAll, PyData.eqvAll]
      | cons x xs ihx =>
        intro h
        rw [List.all_cons, Bool.and_eq_true] at h
        obtain ⟨h1, h2, h3⟩ := ih x h.1
        obtain ⟨i1, i2, i3⟩ := ihx h.2
        refine ⟨by simp [PyData.canLayAll0, h1, i1], ?_, by simp [PyData.eqvAll, h3, i3]⟩
        simp only [PyData.depthAll]
        omega
    intro d h
    cases d with
    | none => refine ⟨?_, ?_, ?_⟩ <;> simp [PyData.canLay0, PyData.depth, PyData.eqv]
    | bool b => refine ⟨?_, ?_, ?_⟩ <;> simp [PyData.canLay0, PyData.depth, PyData.eqv]
    | int i => refine ⟨?_, ?_, ?_⟩ <;> simp [PyData.canLay0, PyData.depth, PyData.eqv]
    | str x => exact Bool.noConfusion (show false = true from h)
    | dict x => exact Bool.noConfusion (show false = true from h)
    | list xs =>
      obtain ⟨i1, i2, i3⟩ := all xs h
      refine ⟨by simp [PyData.canLay0, i1], ?_, by simp [PyData.eqv, i3]⟩
      simp only [PyData.depth]
      omega
    | tuple xs =>
      obtain ⟨i1, i2, i3⟩ := all xs h
      refine ⟨by simp [PyData.canLay0, i1], ?_, by simp [PyData.eqv, i3]⟩
      simp only [PyData.depth]
      omega
theorem rowD_rows (b : Bool) (ds : List PyData) : rowD (rows b ds) = true := by cases b <;> rfl
theorem okD_shaped {n : Nat} {d : PyData} (h : okD n d = true) (hn : n ≤ 64) : SeqAt.shaped d = true := by
  obtain ⟨h1, h2, _⟩ := okD_out n d h
  unfold SeqAt.shaped
  rw [h1, decide_eq_true (by omega)]
  rfl
theorem okD_ints (n : Nat) (ns : List Int) : okD (n + 1) (.list (ns.map .int)) = true := by
  show (ns.map PyData.int).all (okD n) = true
  rw [List.all_eq_true]
  intro d hd
  obtain ⟨x, _, rfl⟩ := List.mem_map.mp hd
  cases n <;> rfl
theorem eqv_int (i j : Int) : PyData.eqv (.int i) (.int j) = decide (i = j) := by
  show (i == j) = decide (i = j)
  exact (Bool.beq_eq_decide_eq i j)
theorem eqv_ints : ∀ ns ms : List Int, PyData.eqvAll (ns.map .int) (ms.map .int) = decide (ns = ms)
  | [], [] => by simp [PyData.eqvAll]
  | [], _ :: _ => by simp [PyData.eqvAll]
  | _ :: _, [] => by simp [PyData.eqvAll]
  | n :: ns, m :: ms => by
    rw [List.map_cons, List.map_cons, PyData.eqvAll, eqv_ints ns ms, eqv_int n m]
    simp
theorem shaped_int (i : Int) : SeqAt.shaped (.int i) = true := rfl
@[simp] theorem eqD_int (i j : Int) : eqD (.int i) (.int j) = some (.bool (decide (i = j))) := by
  unfold eqD
  rw [shaped_int, shaped_int, eqv_int]
  rfl
@[simp] theorem neD_int (i j : Int) : neD (.int i) (.int j) = some (.bool (!decide (i = j))) := by
  unfold neD
  rw [shaped_int, shaped_int, eqv_int]
  rfl
theorem eqD_same (n : Nat) {d : PyData} (h : okD n d = true) (hn : n ≤ 64) : eqD d d = some (.bool true) := by
  unfold eqD
  rw [okD_shaped h hn, (okD_out n d h).2.2]
  rfl
theorem neD_same (n : Nat) {d : PyData} (h : okD n d = true) (hn : n ≤ 64) : neD d d = some (.bool false) := by
  unfold neD
  rw [okD_shaped h hn, (okD_out n d h).2.2]
  rfl
end Fd
end

section
set_option Elab.async false
set_option linter.all false
set_option maxRecDepth 100000
set_option maxHeartbeats 1000000
/-! Walks by meaning 12: a list backwards, in a tuple of texts, rows that the module keeps. -/
namespace Fd
open PySem PySem.Spec PyProof.Rows L2 Evl Tb
/-! ### xs[::-1] of a list -/
theorem vals_append {xs ys : List V} {us ws : List Value} : Vals xs us → Vals ys ws → Vals (xs ++ ys) (us ++ ws)
  | .nil, h => h
  | .cons r t, h => .cons r (vals_append t h)
theorem vals_back : ∀ {xs : List V} {us : List Value}, Vals xs us → Vals xs.reverse us.reverse
  | _, _, .nil => .nil
  | _, _, .cons r t => by
    rw [List.reverse_cons, List.reverse_cons]
    exact vals_append (vals_back t) (.cons r .nil)
theorem pick_rev (its : List Value) : slicePick its.toArray none none (some (-1)) = its.reverse.toArray := by
  unfold slicePick sliceBounds
  rw [List.size_toArray]
  show (List.filterMap _ (sliceRange ((its.length : Int) - 1) (-1) (-1))).toArray = _
  have e : sliceRange ((its.length : Int) - 1) (-1) (-1) = (List.range its.length).map fun k => its.length - 1 - k := by
    unfold sliceRange
    have h1 : ¬ ((-1 : Int) > 0) := by decide
    simp only [if_neg h1]
    have h2 : (if ((its.length : Int) - 1 > -1) then ((its.length : Int) - 1 - -1 - -1 - 1) / - -1 else 0).toNat = its.length := by
      split
      · rw [show (- -1 : Int) = 1 from rfl, Int.ediv_one]
        omega
      · rw [show (0 : Int).toNat = 0 from rfl]
        omega
    rw [h2]
    apply List.map_congr_left
    intro k hk
    have := List.mem_range.mp hk
    omega
  rw [e, List.filterMap_map]
  congr 1
  have e2 : List.filterMap ((fun x => its.toArray[x]?) ∘ fun k => its.length - 1 - k) (List.range its.length) = (List.range its.length).map fun k => its.getD (its.length - 1 - k) .none := by
    have e3 : (List.range its.length).map ((fun x => its.toArray[x]?) ∘ fun k => its.length - 1 - k) = (List.range its.length).map fun k => some (its.getD (its.length - 1 - k) .none) := by
      apply List.map_congr_left
      intro k hk
      have hk := List.mem_range.mp hk
      show its.toArray[its.length - 1 - k]? = some _
      rw [List.getElem?_toArray, List.getD_eq_getElem?_getD, List.getElem?_eq_getElem (by omega)]
      rfl
    have e4 : ∀ (f : Nat → Option Value) (l : List Nat), l.filterMap f = (l.map f).filterMap id := fun f l => by
      rw [List.filterMap_map]
      rfl
    rw [e4, e3, List.filterMap_map, ← List.filterMap_eq_map']
    rfl
  rw [e2]
  apply List.ext_getElem?
  intro i
  by_cases hi : i < its.length
  · rw [List.getElem?_reverse hi, List.getElem?_map, List.getElem?_range hi]
    show some (its.getD (its.length - 1 - i) .none) = _
    rw [List.getD_eq_getElem?_getD, List.getElem?_eq_getElem (by omega)]
    rfl
  · rw [List.getElem?_eq_none (show its.reverse.length ≤ i by rw [List.length_reverse]; omega), List.getElem?_eq_none (by rw [List.length_map, List.length_range]; omega)]
def tRev (K : PySem.W.Frag) (te ts : TE) : TE := fun σ H Q => te σ H fun x H1 => ts σ H1 fun y H2 => y = .int (-1) ∧ ∃ a xs, x = .ref a ∧ SqL K H2 a xs ∧ ∀ p, H2 p = none → Q (.ref p) (upd H2 p (.lst xs.reverse))
theorem pe_rev {X : Cx} {K : PySem.W.Frag} {e st : Expr} {te ts : TE} {pos p2 : Pos} (hK : X.K = K) (he : PE X e te) (hs : PE X st ts) : PE X (.Subscript e (.Slice none none (some st) p2) pos) (tRev K te ts) := by
  subst hK
  refine ⟨fun pins s σ H Q I h => ?_⟩
  refine Subscript_ (thn (he.run pins s σ H _ I h) fun v s1 ⟨x, H1, I1, r1, q1⟩ => ?_)
  refine wpAny_Slice ?_
  rw [evalPart_none]
  refine wpAny_pure (wpAny_pure ?_)
  rw [evalPart_some]
  refine thn (hs.run pins s1 σ H1 _ I1 q1) fun u s2 ⟨y, H2, I2, r2, q2⟩ => ?_
  obtain ⟨rfl, a, xs, rfl, hx, q⟩ := q2
  obtain ⟨t, rfl⟩ := r2
  cases r1
  have I4 : Inv X pins σ H2 { s2 with heap := s2.heap.push { cls := .type "slice", data := .fields #[.none, .none, .int (-1) t] } } := I2.kept (t' := s2.toks) fun b ob q => Heap.get?_push_of_some _ q
  obtain ⟨its, r, ht, hz⟩ := I4.list hx
  have hlen := r.length
  show wpAny (model X.prog X.w) X.A (subscriptTail e (.Slice none none (some st) p2) (.ref a) (.ref s2.heap.objs.size)) (EP X pins σ Q) X.xe { s2 with heap := s2.heap.push { cls := .type "slice", data := .fields #[.none, .none, .int (-1) t] } }
  refine tail_any (ops := [.ref a, .ref s2.heap.objs.size]) ht.isList.typeIs slot_list_getitem.lookup ?_ (by with_unfolding_all rfl)
  refine wpAny_getItem_list_slice ht.isList (Heap.IsSliceOf.new ..) .none .none (.int (-1) t) (by decide) ?_ (by rw [List.size_toArray] <;> omega)
  rw [pick_rev]
  refine ⟨.ref _, _, I4.laid (t' := s2.toks) (o := .lst xs.reverse) (fun b ob q => Heap.get?_push_of_some _ q) (Nat.le_refl _) ?_, rfl, q _ (I4.hok.fresh (Nat.le_refl _))⟩
  exact ⟨by rw [List.length_reverse]; omega, _, 0, vals_back r, Heap.get?_push_size _ rfl⟩
theorem dpa_back {K : PySem.W.Frag} {H : Hp} : ∀ {xs : List V} {ds : List PyData}, DpAll K H xs ds → DpAll K H xs.reverse ds.reverse
  | _, _, .nil => .nil
  | _, _, .cons r t => by
    rw [List.reverse_cons, List.reverse_cons]
    exact (dpa_back t).append (.cons r .nil)
def dBack (f g : Dn PyData) : Dn (List PyData) := dBind f fun x => dBind g fun y => match x, y with
  | .list ds, .int i => if i = -1 then dK ds.reverse else fun _ => none
  | _, _ => fun _ => none
theorem sl_back {K : PySem.W.Frag} {te ts : TE} {f g : Dn PyData} (h : SE K te f) (hs : SE K ts g) : SL K (tRev K te ts) (dBack f g) := fun W hW σ e B H a d e' h' Q q => by
  obtain ⟨x, e1, h1, h2⟩ := dBind_some h'
  obtain ⟨y, e2, h3, h4⟩ := dBind_some h2
  refine h W hW σ e B H a x e1 h1 _ fun v1 B1 H1 a1 g1 d1 => hs W hW σ e1 B1 H1 a1 y e2 h3 _ fun v2 B2 H2 a2 g2 d2 => ?_
  have d3 := dp_mono g2.go.hg d1
  split at h4
  · rename_i ds i
    split at h4
    · rename_i hi
      subst hi
      cases h4
      obtain ⟨p, us, rfl, k1, k2⟩ := d3.lst_of
      refine ⟨d2.int_of, p, us, rfl, ex_l a2.ex k1, fun r hr => ?_⟩
      have gr : Gr B2 H2 B2 (upd H2 r (.lst us.reverse)) := Gr.mut a2.ex hr
      exact q _ _ _ _ (a2.gr gr) ((g1.trans g2).trans (gx_gr gr)) ((g1.trans g2).go.dm r hr) upd_same (fresh_back a2.ex hr) (dpa_back k2)
    · cases h4
  · cases h4
/-! ### in a tuple of texts -/
def strsOf : List PyData → Option (List Str)
  | [] => some []
  | .str z :: ds => (strsOf ds).map (z :: ·)
  | _ => none
def rInU (K : PySem.W.Frag) : R2 := fun x y H Q => rInD K x y H Q ∨ rIn K false x y H Q
theorem ok_inU {X : Cx} {K : PySem.W.Frag} (h : X.K = K) (hu : X.A.units + 65 < cLine) : OpR X (compareOp .In) (rInU K) := by
  subst h
  exact (op_inD hu).or op_in_seq
def inUD (x y : PyData) : Option PyData := match x, y with
  | .str z, .tuple ds => (strsOf ds).map fun ss => .bool (ss.any fun s => s == z)
  | _, _ => inD false x y
theorem strs_vals {K : PySem.W.Frag} {H : Hp} : ∀ {ds : List PyData} {ss : List Str} {us : List V}, strsOf ds = some ss → DpAll K H us ds → us = ss.map V.str
  | [], _, _, h, .nil => by
    cases h
    rfl
  | d :: ds, ss, _, h, .cons r t => by
    cases d with
    | str z =>
      obtain ⟨ss', h1, rfl⟩ := Option.map_eq_some_iff.mp h
      rw [strs_vals h1 t, r.str_of]
      rfl
    | _ => cases h
theorem inV_strs (z : Str) : ∀ ss : List Str, inV (.str z) (ss.map V.str) = ss.any fun s => s == z
  | [] => rfl
  | s :: ss => by
    have := inV_strs z ss
    unfold inV at this ⊢
    rw [List.map_cons, List.any_cons, List.any_cons, this]
    rfl
theorem flat_strs : ∀ ss : List Str, (ss.map V.str).all flatV = true
  | [] => rfl
  | _ :: ss => by
    rw [List.map_cons, List.all_cons, flat_strs ss]
    rfl
theorem rf_inU {K : PySem.W.Frag} {B : Hp} (x y z : PyData) (h : inUD x y = some z) : RD K (rInU K) x y B z := by
  unfold inUD at h
  split at h
  · rename_i z ds
    obtain ⟨ss, h1, rfl⟩ := Option.map_eq_some_iff.mp h
    intro a b H1 e hx hy Q q
    obtain ⟨p, us, rfl, k1, k2⟩ := hy.tup_of
    have e1 := strs_vals h1 k2
    subst e1
    rw [hx.str_of]
    refine .inr ⟨p, _, rfl, .inr (ex_t e k1), rfl, flat_strs ss, ?_⟩
    rw [if_neg Bool.false_ne_true, inV_strs]
    exact q _ B H1 (.refl e) (.bl _)
  · intro a b H1 e hx hy Q q
    exact .inl (rf_in _ _ _ h a b H1 e hx hy Q q)
theorem se_inU {K : PySem.W.Frag} {ta tb : TE} {f g : Dn PyData} (ha : SE K ta f) (hb : SE K tb g) : SE K (tOp (rInU K) ta tb) (dOp inUD f g) := se_op (fun B => rf_inU) ha hb
def rNotInU (K : PySem.W.Frag) : R2 := fun x y H Q => rNotInD K x y H Q ∨ rIn K true x y H Q
theorem ok_notInU {X : Cx} {K : PySem.W.Frag} (h : X.K = K) (hu : X.A.units + 65 < cLine) : OpR X (compareOp .NotIn) (rNotInU K) := by
  subst h
  exact (op_notInD hu).or op_notIn_seq
def notInUD (x y : PyData) : Option PyData := match x, y with
  | .str z, .tuple ds => (strsOf ds).map fun ss => .bool (!ss.any fun s => s == z)
  | _, _ => inD true x y
theorem rf_notInU {K : PySem.W.Frag} {B : Hp} (x y z : PyData) (h : notInUD x y = some z) : RD K (rNotInU K) x y B z := by
  unfold notInUD at h
  split at h
  · rename_i z ds
    obtain ⟨ss, h1, rfl⟩ := Option.map_eq_some_iff.mp h
    intro a b H1 e hx hy Q q
    obtain ⟨p, us, rfl, k1, k2⟩ := hy.tup_of
    have e1 := strs_vals h1 k2
    subst e1
    rw [hx.str_of]
    refine .inr ⟨p, _, rfl, .inr (ex_t e k1), rfl, flat_strs ss, ?_⟩
    rw [if_pos rfl, inV_strs]
    exact q _ B H1 (.refl e) (.bl _)
  · intro a b H1 e hx hy Q q
    exact .inl (rf_notIn _ _ _ h a b H1 e hx hy Q q)
theorem se_notInU {K : PySem.W.Frag} {ta tb : TE} {f g : Dn PyData} (ha : SE K ta f) (hb : SE K tb g) : SE K (tOp (rNotInU K) ta tb) (dOp notInUD f g) := se_op (fun B => rf_notInU) ha hb
theorem room65 {n : Nat} {A : Around} (hr : Room n A) : A.units + 65 < cLine := by
  have := hr.un
  omega
/-! ### rows of texts that the module keeps -/
/-- a tuple of texts at a -/
def TxT (K : PySem.W.Frag) (a : Addr) (ss : List Str) : Prop := ∀ H : Hp, SqT K H a (ss.map V.str)
theorem dpa_strs {K : PySem.W.Frag} {H : Hp} : ∀ ss : List Str, DpAll K H (ss.map V.str) (ss.map PyData.str)
  | [] => .nil
  | s :: ss => .cons (.str s) (dpa_strs ss)
theorem se_txt {K : PySem.W.Frag} {a : Addr} {ss : List Str} (h : TxT K a ss) : SE K (tC (.ref a)) (dK (.tuple (ss.map .str))) := se_c fun B => .tup (h B) (dpa_strs ss)
theorem txT_of {K : PySem.W.Frag} {x : Str} {ss : List Str} (h : He.tupB K x (ss.map .str) = true) : TxT K (He.ga K x) ss := fun H => by
  have := He.tupB_ok h H
  rw [List.map_map] at this
  exact this
/-! ### the hook that tells rows of texts too -/
abbrev AlT : Type := He.AlD × Bool
def obsT (fa : List He.Fa) (fn : List He.DefD) (ts : List (Str × List Str)) (K : PySem.W.Frag) : AlT := (He.obsD fa fn K, ts.all fun t => He.tupB K t.1 (t.2.map .str))
def obsTG (n : Nat) (fa : List He.Fa) (fn : List He.DefD) (ts : List (Str × List Str)) (g : Addr → Option Obj) : AlT := obsT fa fn ts (He.frG g (He.asD g n))
def hookT (n : Nat) (fa : List He.Fa) (fn : List He.DefD) (ts : List (Str × List Str)) : PySem.W.Hook where
  α := AlT
  obs := fun s => obsTG n fa fn ts s.heap.get?
  val := fun _ => (He.valD fn, true)
  says := fun _ h => ∃ K : PySem.W.Frag, K.In h ∧ obsT fa fn ts K = (He.valD fn, true)
  of := fun _ _ e => ⟨_, He.frG_in, e⟩
  keeps := fun _ _ _ ⟨K, hK, c⟩ k => ⟨K, PySem.W.Frag.In.keeps hK k, c⟩
theorem obsTG_eq {n : Nat} {fa : List He.Fa} {fn : List He.DefD} {ts : List (Str × List Str)} {g : Addr → Option Obj} {s : Shared} (h : ∀ a, g a = s.heap.get? a) : obsTG n fa fn ts g = (hookT n fa fn ts).obs s := by
  have e : g = s.heap.get? := funext h
  rw [e] <;> rfl
theorem saysT_D {K : PySem.W.Frag} {fa : List He.Fa} {fn : List He.DefD} {ts : List (Str × List Str)} (c : obsT fa fn ts K = (He.valD fn, true)) : He.SaysD fa fn K := congrArg (fun z : AlT => z.1) c
theorem saysT_t {K : PySem.W.Frag} {fa : List He.Fa} {fn : List He.DefD} {ts : List (Str × List Str)} (c : obsT fa fn ts K = (He.valD fn, true)) (i : Nat) {x : Str} {ss : List Str} (h : ts[i]? = some (x, ss)) : TxT K (He.ga K x) ss := by
  have c2 : (ts.all fun t => He.tupB K t.1 (t.2.map .str)) = true := congrArg (fun z : AlT => z.2) c
  exact txT_of (List.all_eq_true.mp c2 (x, ss) (List.mem_of_getElem? h))
end Fd
end

section
set_option Elab.async false
set_option linter.all false
set_option maxRecDepth 100000
set_option maxHeartbeats 1000000
/-! Walks by meaning 13: a name that holds one of two defs. -/
namespace Fd
open PySem PySem.Spec PyProof.Rows L2 Evl Tb
theorem At.setN {W : Wo} {σ : L2.St} {e : En} {B H : Hp} (a : At W σ e B H) {i : Nat} {v : V} (hp : W.pn i = none) : At W (σ.set i (some v)) (e.set i .no) B H where
  ex := a.ex
  nm := a.nm
  len := by rw [List.length_set, List.length_set, a.len]
  dat := fun j x h => by
    by_cases c : i = j
    · subst c
      rw [List.getElem?_set] at h
      simp at h
    · rw [List.getElem?_set_ne c] at h ⊢
      exact a.dat j x h
  own := fun j s xs h h2 => by
    by_cases c : i = j
    · subst c
      rw [List.getElem?_set] at h
      simp at h
      rw [← h.2] at h2
      cases h2
    · rw [List.getElem?_set_ne c] at h ⊢
      exact a.own j s xs h h2
  sep := fun j k s t p xs ys h1 h2 h3 h4 h5 h6 => by
    by_cases c : i = j
    · subst c
      rw [List.getElem?_set] at h1
      simp at h1
      rw [← h1.2] at h2
      cases h2
    · by_cases c2 : i = k
      · subst c2
        rw [List.getElem?_set] at h3
        simp at h3
        rw [← h3.2] at h4
        cases h4
      · rw [List.getElem?_set_ne c] at h1 h5
        rw [List.getElem?_set_ne c2] at h3 h6
        exact a.sep j k s t p xs ys h1 h2 h3 h4 h5 h6
  pin := fun j b h => by
    by_cases c : i = j
    · subst c
      rw [hp] at h
      cases h
    · rw [List.getElem?_set_ne c, List.getElem?_set_ne c]
      exact a.pin j b h
def sFn (c : Dn Bool) (i : Nat) (D1 D2 : Ds) : Ds := fun e => match c e with
  | some (b, e1) => if canSet e1 i = true then (if b = true then D1 (e1.set i .no) else D2 (e1.set i .no)) else none
  | none => none
theorem ss_fn {K : PySem.W.Frag} {i : Nat} {tt : TT} {c : Dn Bool} {a1 a2 : Addr} {T T1 T2 : TE} {D1 D2 : Ds} (tS : TE → TS) (hc : ST K tt c) (hloc : ∀ (t t' : TE) (σ : L2.St), t σ = t' σ → ∀ D H, tS t D σ H → tS t' D σ H)
    (q1 : ∀ σ : L2.St, σ[i]? = some (some (.ref a1)) → T1 σ = T σ) (q2 : ∀ σ : L2.St, σ[i]? = some (some (.ref a2)) → T2 σ = T σ) (h1 : SS K (tS T1) D1) (h2 : SS K (tS T2) D2) :
    SS K (tSeq (tAsg (tIf tt (tC (.ref a1)) (tC (.ref a2))) (gName i)) (tS T)) (sFn c i D1 D2) := fun W hW σ e B H a r hr D q => by
  unfold sFn at hr
  split at hr
  · rename_i b e1 he
    split at hr
    · rename_i hcs
      refine hc W hW σ e B H a b e1 he _ fun B1 H1 a1' g1 => ?_
      have qq := q.mono (a.goM g1)
      have hl : i < σ.length := by
        rw [a1'.len]
        unfold canSet at hcs
        cases hg : e1[i]? with
        | none =>
          rw [hg] at hcs
          cases hcs
        | some s => exact (List.getElem?_eq_some_iff.mp hg).1
      have hp := can_pn a1' hcs
      by_cases z : b = true
      · rw [if_pos z] at hr ⊢
        exact hloc T1 T (σ.set i (some (.ref a1))) (q1 _ (List.getElem?_set_self hl)) D H1 (h1 W hW _ _ B1 H1 (a1'.setN hp) r hr D qq)
      · rw [if_neg z] at hr ⊢
        exact hloc T2 T (σ.set i (some (.ref a2))) (q2 _ (List.getElem?_set_self hl)) D H1 (h2 W hW _ _ B1 H1 (a1'.setN hp) r hr D qq)
    · cases hr
  · cases hr
theorem callA_eq {i : Nat} {S : Addr → Option Sp} {t : TA} {a : Addr} {sp : Sp} (hS : S a = some sp) (σ : L2.St) (h : σ[i]? = some (some (.ref a))) : tCall sp [] (fun _ _ _ => False) t σ = tCallA i S t σ := by
  funext H Q
  have e : (fun (vs : List V) (H1 : Hp) => sp (vs ++ []) H1 Q (fun _ _ _ => False)) = fun vs H1 => sp vs H1 Q (fun _ _ _ => False) := by
    funext vs H1
    rw [List.append_nil]
  apply propext
  constructor
  · intro q
    refine ⟨a, sp, h, hS, ?_⟩
    have q' : t σ H (fun vs H1 => sp (vs ++ []) H1 Q (fun _ _ _ => False)) := q
    rw [e] at q'
    exact q'
  · rintro ⟨f, sp', h1, h2, h3⟩
    rw [h] at h1
    cases h1
    rw [hS] at h2
    cases h2
    show t σ H (fun vs H1 => sp (vs ++ []) H1 Q (fun _ _ _ => False))
    rw [e]
    exact h3
theorem held_has {P : Program} {w : World} {K : PySem.W.Frag} {mg : Str → Option Value} {base : Heap} {x : Str} {k : Nat} {ps : List Str} {sp : Sp} {f : Addr} (A : Has P w K mg base L2.CX0 x k ps [] sp) (hm : mg x = some (.ref f)) : Held P w K mg base k f sp := by
  obtain ⟨f', fd, ds, F, hm', hk, hv, hb⟩ := A.ex
  have e : f' = f := by
    rw [hm] at hm'
    cases hm'
    rfl
  subst e
  cases hv
  exact ⟨fd, ps, F, hk, hb⟩
theorem fun_ne {K : PySem.W.Frag} {x y qx qy : Str} {px py : Arguments} {bx by_ : List Stmt} {sx sy : Scope} {dx dy : List V} {kx ky : List (Str × V)} {f g : Addr} {fd gd : FuncData} (F : FunD K x qx px bx sx dx kx f fd) (G : FunD K y qy py by_ sy dy ky g gd) (h : x ≠ y) : f ≠ g := by
  intro e
  subst e
  obtain ⟨_, _, _, _, _, _, _, _, _, _, rfl, l1, _⟩ := F.ex
  obtain ⟨_, _, _, _, _, _, _, _, _, _, rfl, l2, _⟩ := G.ex
  rw [l1] at l2
  have := Option.some.inj l2
  injection this with _ _ h3 _
  injection h3 with h4
  exact h (congrArg FuncData.name h4)
def twoS (a1 a2 : Addr) (s1 s2 : Sp) : Addr → Option Sp := fun f => if f = a1 then some s1 else if f = a2 then some s2 else none
theorem twoS_1 {a1 a2 : Addr} {s1 s2 : Sp} : twoS a1 a2 s1 s2 a1 = some s1 := if_pos rfl
theorem twoS_2 {a1 a2 : Addr} {s1 s2 : Sp} (h : a1 ≠ a2) : twoS a1 a2 s1 s2 a2 = some s2 := by
  unfold twoS
  rw [if_neg (Ne.symm h), if_pos rfl]
theorem twoS_ok {a1 a2 : Addr} {s1 s2 : Sp} {p : Addr → Sp → Prop} (h1 : p a1 s1) (h2 : p a2 s2) : ∀ f sp, twoS a1 a2 s1 s2 f = some sp → p f sp := fun f sp h => by
  unfold twoS at h
  by_cases c1 : f = a1
  · rw [if_pos c1] at h
    cases h
    rw [c1]
    exact h1
  · rw [if_neg c1] at h
    by_cases c2 : f = a2
    · rw [if_pos c2] at h
      cases h
      rw [c2]
      exact h2
    · rw [if_neg c2] at h
      cases h
end Fd
end

section
set_option Elab.async false
set_option linter.all false
set_option maxRecDepth 100000
set_option maxHeartbeats 1000000
/-! Walks by meaning 14: a def that tells a tuple with a new list at its head; a new list that is changed where it is told. -/
namespace Fd
open PySem PySem.Spec PyProof.Rows L2 Evl Tb
section
variable {K : PySem.W.Frag} {n : Nat} {ta : TA} {te tb : TE} {fl : Dn (List PyData)} {E : XK} {W : Wo} {σ : L2.St} {e : En} {B H : Hp} {t u : TS} {F : Ds}
/-- a tuple: a new list, then data -/
def spT (K : PySem.W.Frag) (n : Nat) (F : List PyData → Option (List PyData × List PyData)) : Sp := fun vs H Q _ => ∃ (B : Hp) (ds xs zs : List PyData), Ex B H ∧ ds.length = n ∧ DpAll K B vs ds ∧ F ds = some (xs, zs) ∧
  ∀ t p us ws B' H', Gr B H B' H' → H p = none → H' p = some (.lst us) → B' p = none → DpAll K B' us xs → SqT K B' t (.ref p :: ws) → DpAll K B' ws zs → Q (.ref t) H'
theorem spT_len {ps : List Str} {F : List PyData → Option (List PyData × List PyData)} (hn : n = ps.length) : ∀ vs H Q E, spT K n F vs H Q E → vs.length = ps.length := fun vs H Q E h => by
  obtain ⟨B, ds, xs, zs, _, hl, hd, _⟩ := h
  rw [DpAll.length hd, hl, hn]
def tupF (F : List PyData → Option (List PyData × List PyData)) : List PyData → Option PyData := fun ds => (F ds).map fun r => .tuple (.list r.1 :: r.2)
def tupHd (F : List PyData → Option (List PyData × List PyData)) : List PyData → Option (List PyData) := fun ds => (F ds).map Prod.fst
theorem se_callT {F : List PyData → Option (List PyData × List PyData)} {dvs : List V} {dds : List PyData} (hv : ∀ H, DpAll K H dvs dds) (h : SA K ta fl) : SE K (tCall (spT K n F) dvs E ta) (dCall n (tupF F) dds fl) := fun W hW σ e B H a d e' h' Q q => by
  obtain ⟨ds, e1, h1, h2⟩ := dBind_some h'
  split at h2
  · rename_i hl
    obtain ⟨h3, rfl⟩ := dLift_some h2
    obtain ⟨⟨xs, zs⟩, hF, rfl⟩ := Option.map_eq_some_iff.mp h3
    refine h W hW σ e B H a ds e' h1 _ fun vs B1 H1 a1 g1 d1 => ⟨B1, ds ++ dds, xs, zs, a1.ex, hl, d1.append (hv _), hF, fun t p us ws B2 H2 g2 p0 hp pB du st dz => ?_⟩
    have g3 := gr_freeze pB p0 g2 hp
    have x3 : Ex B2 (upd B2 p (.lst us)) := Ex.new pB
    exact q (.ref t) _ H2 (a1.gr g3) (g1.trans (gx_gr g3)) (.tup (ex_t x3 st) (.cons (.lst (sq_of upd_same) (dpa_mono x3 du)) (dpa_mono x3 dz)))
  · cases h2
theorem atI_hd {α : Type} (x : α) (xs : List α) : atI (x :: xs) 0 = some x := by
  unfold atI
  simp [ixN]
theorem sl_callT0 {F : List PyData → Option (List PyData × List PyData)} {dvs : List V} {dds : List PyData} (hv : ∀ H, DpAll K H dvs dds) (h : SA K ta fl) : SL K (tOp (rIx K) (tCall (spT K n F) dvs E ta) (tC (.int 0))) (dCallL n (tupHd F) dds fl) := fun W hW σ e B H a d e' h' Q q => by
  obtain ⟨ds, e1, h1, h2⟩ := dBind_some h'
  split at h2
  · rename_i hl
    obtain ⟨h3, rfl⟩ := dLift_some h2
    obtain ⟨⟨xs, zs⟩, hF, rfl⟩ := Option.map_eq_some_iff.mp h3
    refine h W hW σ e B H a ds e' h1 _ fun vs B1 H1 a1 g1 d1 => ⟨B1, ds ++ dds, xs, zs, a1.ex, hl, d1.append (hv _), hF, fun t p us ws B2 H2 g2 p0 hp pB du st dz => ?_⟩
    exact .inr (.inl ⟨t, .ref p :: ws, 0, .ref p, rfl, rfl, ex_t g2.g2 st, atI_hd _ _, q p us B2 H2 (a1.gr g2) (g1.trans (gx_gr g2)) (g1.go.dm p p0) hp pB du⟩)
  · cases h2
/-- a new list is told, changed and forgotten -/
def sAppN (fl : Dn (List PyData)) : Ds := fun e => match fl e with
  | some (xs, e1) => if few xs = true then some (.nx e1) else none
  | none => none
theorem ss_appN (h : SL K te fl) : SS K (tDrop (tBM K "list" rAppend te (tCons (tC .non) tNil))) (sAppN fl) := fun W hW σ e B H a r hr D q => by
  unfold sAppN at hr
  split at hr
  · rename_i xs e1 h1
    split at hr
    · rename_i hf
      cases hr
      refine h W hW σ e B H a xs e1 h1 _ fun p us B1 H1 a1 g1 p0 hp pB d1 => ⟨.inl ⟨rfl, us, sq_of hp⟩, p, us, .non, rfl, rfl, hp, sz_lt ?_, ?_⟩
      · have := of_decide_eq_true hf
        rw [DpAll.length d1]
        omega
      · have no : ¬ Ow σ e1 p := fun z => (a.ow (g1.ow p z)).2.1 p0
        have g2 : Go W.M B H B1 (upd H1 p (.lst (us ++ [.non]))) := Go.put (a.goM g1) p0
        exact q σ B1 _ (a1.oth pB no) g2
    · cases hr
  · cases hr
/-! ### the body of such a def -/
def SQ (K : PySem.W.Frag) (t : TS) (f : En → Option (List PyData × List PyData)) : Prop := ∀ (W : Wo), W.K = K → ∀ (σ : L2.St) (e : En) (B H : Hp), At W σ e B H → ∀ xs zs, f e = some (xs, zs) → ∀ D : Ends,
  (∀ t p us ws B' H', Go W.M B H B' H' → Ex B' H' → W.M p → H' p = some (.lst us) → B' p = none → DpAll K B' us xs → SqT K B' t (.ref p :: ws) → DpAll K B' ws zs → D.rt (.ref t) H') → t D σ H
def qSeq (F : Ds) (g : En → Option (List PyData × List PyData)) : En → Option (List PyData × List PyData) := fun e => match F e with
  | some (.nx e1) => g e1
  | _ => none
theorem sq_seq {g : En → Option (List PyData × List PyData)} (h1 : SS K t F) (h2 : SQ K u g) : SQ K (tSeq t u) (qSeq F g) := fun W hW σ e B H a xs zs hr D q => by
  unfold qSeq at hr
  split at hr
  · rename_i e1 he
    refine h1 W hW σ e B H a _ he _ fun σ' B' H' a' g' => h2 W hW σ' e1 B' H' a' xs zs hr D fun t p us ws B2 H2 g2 => q t p us ws B2 H2 (g'.trans g2)
  · cases hr
def qRet (i : Nat) (fl : Dn (List PyData)) : En → Option (List PyData × List PyData) := fun e => match e[i]? with
  | some (.o _) => match fl e with
    | some (zs, e1) => match e1[i]? with
      | some (.o ys) => if small (.none :: zs) = true then some (ys, zs) else none
      | _ => none
    | none => none
  | _ => none
theorem sq_ret {i : Nat} (h : SA K ta fl) : SQ K (tRet (tTup (tCons (tVar i) ta))) (qRet i fl) := fun W hW σ e B H a xs zs hr D q => by
  unfold qRet at hr
  split at hr
  · rename_i xs0 i0
    split at hr
    · rename_i zs' e1 h1
      split at hr
      · rename_i ys i1
        split at hr
        · rename_i hs
          cases hr
          obtain ⟨p, us0, k1, k2, k3, k4, k5⟩ := a.own i _ xs0 i0 rfl
          refine ⟨.ref p, k1, h W hW σ e B H a _ e1 h1 _ fun vs B1 H1 a1 g1 d1 => ⟨sz_of ?_, fun r hr => ?_⟩⟩
          · have := of_decide_eq_true hs
            rw [List.length_cons] at this ⊢
            rw [DpAll.length d1]
            exact this
          · obtain ⟨p', us, m1, m2, m3, m4, m5⟩ := a1.own i _ xs i1 rfl
            rw [k1] at m1
            cases m1
            rw [hW] at m5
            have pr : p ≠ r := fun z => by
              subst z
              rw [hr] at m4
              cases m4
            have g2 : Gr B1 H1 (upd B1 r (.tup (.ref p :: vs))) (upd H1 r (.tup (.ref p :: vs))) := Gr.new a1.ex hr
            refine q r p us vs _ _ ((a.goM g1).trans (.gr g2)) g2.g2 m2 (by rw [upd_ne pr]; exact m4) (by rw [upd_ne pr]; exact m3) (dpa_mono g2.hg m5) (st_of upd_same) (dpa_mono g2.hg d1)
        · cases hr
      · cases hr
    · cases hr
  · cases hr
def fnT (n : Nat) (F : En → Option (List PyData × List PyData)) (ds : List PyData) : Option (List PyData × List PyData) := F (init ds n)
theorem body_T {m n : Nat} {N : List Str} {t : TS} {F : En → Option (List PyData × List PyData)} (h : SQ K t F) (hn : N.length = m + n) {vs : List V} {Q : VK} {E : XK} (hs : spT K m (fnT n F) vs H Q E) : t { nx := fun _ H' => Q .non H', rt := Q } (L2.start N vs) H := by
  obtain ⟨B, ds, xs, zs, x, hl, hd, hF, q⟩ := hs
  have a := at_start x hd (by rw [hl]; exact hn)
  exact h _ rfl _ _ B H a xs zs hF _ fun t p us ws B' H' g' x' hM hp pB du st dz => q t p us ws B' H' (gr_of_go g' x') hM hp pB du st dz
end
end Fd
end

section
set_option Elab.async false
set_option linter.all false
set_option maxRecDepth 100000
set_option maxHeartbeats 1000000
/-! Walks by meaning 15: ranges downwards, how often a text stands in a list. -/
namespace Fd
open PySem PySem.Spec PyProof.Rows L2 Evl Tb
section
variable {K : PySem.W.Frag} {ta : TA} {te tb : TE} {fl : Dn (List PyData)} {f g : Dn PyData} {B0 : Hp}
/-! ### range(i, j, -1) -/
def dnD (hi : Int) (n : Nat) : List PyData := (List.range n).map fun i => .int (hi - (i : Nat))
theorem dn_len (hi : Int) (n : Nat) : (dnD hi n).length = n := by
  unfold dnD
  rw [List.length_map, List.length_range]
theorem wk_down {hi : Int} {n : Nat} : Wk K (Itc hi (-1) n) B0 (dnD hi n) := wk_of walk_rangeC (dn_len hi n).symm (fun _ _ => trivial) fun i d B1 H1 x H2 e1 e2 hi' y => by
  obtain ⟨rfl, rfl⟩ := y
  unfold dnD at hi'
  rw [List.getElem?_map] at hi'
  obtain ⟨j, hj, rfl⟩ := Option.map_eq_some_iff.mp hi'
  have e : j = i := by
    obtain ⟨h1, h2⟩ := List.getElem?_eq_some_iff.mp hj
    rw [List.getElem_range] at h2
    exact h2.symm
  subst e
  show ∃ B2, Gr B1 H2 B2 H2 ∧ Dp K B2 (V.int (hi + ((j : Nat) : Int) * (-1))) (PyData.int (hi - (j : Nat)))
  rw [show hi + ((j : Nat) : Int) * (-1) = hi - ((j : Nat) : Int) by omega]
  exact ⟨B1, .refl e2, .int _⟩
def dRgN (f : Dn (List PyData)) : Dn (List PyData) := dBind f fun ds => match ds with
  | [.int i, .int j, .int (-1)] => if (big i && big j) = true then dK (dnD i (i - j).toNat) else fun _ => none
  | _ => fun _ => none
theorem si_rgN (h : SA K ta fl) : SI K (iRng3 ta) (dRgN fl) := fun W hW σ e B H a ds e' h' R q => by
  obtain ⟨d, e1, h1, h2⟩ := dBind_some h'
  split at h2
  · rename_i i j
    split at h2
    · rename_i hb
      obtain ⟨rfl, rfl⟩ := dK_some h2
      rw [Bool.and_eq_true] at hb
      have hb1 := of_decide_eq_true hb.1
      have hb2 := of_decide_eq_true hb.2
      refine h W hW σ e B H a _ e' h1 _ fun vs B1 H1 a1 g1 d1 => ?_
      have ek := DpAll.ints (ns := [i, j, -1]) d1
      subst ek
      have bg : (1000000 : Int) < 2 ^ 62 := by decide
      exact ⟨i, j, -1, _, rfl, RgC.neg (by omega) (by omega) (by omega) (by omega), q _ B1 H1 a1 g1 wk_down⟩
    · cases h2
  · cases h2
@[simp] theorem dRgN_e {e : En} : dRgN fl e = dBind fl (fun ds => match ds with
  | [.int i, .int j, .int (-1)] => if (big i && big j) = true then dK (dnD i (i - j).toNat) else fun _ => none
  | _ => fun _ => none) e := rfl
/-! ### a method that reads a list -/
def RMD (K : PySem.W.Frag) (r : V → List V → Hp → VK → Prop) (F : List PyData → List PyData → Option PyData) : Prop := ∀ (B H : Hp) (p : Addr) (us vs : List V) (xs ds : List PyData) (z : PyData), Ex B H → SqL K B p us → DpAll K B us xs → DpAll K B vs ds → F xs ds = some z →
  ∀ Q : VK, (∀ w G H2, Gr B H G H2 → Dp K G w z → Q w H2) → r (.ref p) vs H Q
def dMt (F : List PyData → List PyData → Option PyData) (f : Dn PyData) (fl : Dn (List PyData)) : Dn PyData := dBind f fun x => match x with
  | .list xs => dBind fl fun ds => dLift (F xs ds)
  | _ => fun _ => none
theorem se_mt {r : V → List V → Hp → VK → Prop} {F : List PyData → List PyData → Option PyData} (hr : RMD K r F) (ha : SE K te f) (h : SA K ta fl) : SE K (tBM K "list" r te ta) (dMt F f fl) := fun W hW σ e B H a d e' h' Q q => by
  obtain ⟨x, e1, h1, h2⟩ := dBind_some h'
  split at h2
  · rename_i xs
    obtain ⟨ds, e2, h3, h4⟩ := dBind_some h2
    obtain ⟨h5, rfl⟩ := dLift_some h4
    refine ha W hW σ e B H a _ e1 h1 _ fun v B1 H1 a1 g1 d1 => ?_
    obtain ⟨p, us, rfl, k1, k2⟩ := d1.lst_of
    refine ⟨.inl ⟨rfl, us, ex_l a1.ex k1⟩, h W hW σ e1 B1 H1 a1 ds e' h3 _ fun vs B2 H2 a2 g2 d2 => ?_⟩
    exact hr B2 H2 p us vs xs ds d a2.ex (ex_l g2.go.hg k1) (dpa_mono g2.go.hg k2) d2 h5 Q fun w G H3 g3 hd => q w G H3 (a2.gr g3) ((g1.trans g2).trans (gx_gr g3)) hd
  · cases h2
@[simp] theorem dMt_e {F : List PyData → List PyData → Option PyData} {e : En} : dMt F f fl e = dBind f (fun x => match x with
  | .list xs => dBind fl fun ds => dLift (F xs ds)
  | _ => fun _ => none) e := rfl
/-! ### how often a text stands in a list -/
def strIs (z : Str) : Value → Bool
  | .str x _ => x == z
  | _ => false
theorem str_at {A : Around} {s : Shared} {z : Str} {t : Tok} : ∀ {us : List Value} {ss : List Str}, Vals (ss.map V.str) us → ∀ y ∈ us, SeqAt.EqAt A s y (.str z t) (strIs z y)
  | _, [], .nil => fun y hy => by cases hy
  | _, x :: ss, .cons ⟨t', e⟩ h => fun y hy => by
    rcases List.mem_cons.mp hy with c | c
    · subst c e
      exact SeqAt.EqAt.str_str x t' z t
    · exact str_at h y c
theorem str_cnt {z : Str} : ∀ {us : List Value} {ss : List Str}, Vals (ss.map V.str) us → us.countP (strIs z) = ss.count z
  | _, [], .nil => rfl
  | _, x :: ss, .cons ⟨t', e⟩ h => by
    subst e
    rw [List.countP_cons, List.count_cons, str_cnt h]
    rfl
def rCntS (K : PySem.W.Frag) : V → List V → Hp → VK → Prop := fun x vs H Q => ∃ (p : Addr) (ss : List Str) (z : Str), x = .ref p ∧ vs = [.str z] ∧ SqL K H p (ss.map V.str) ∧ Q (.int ((ss.count z : Nat) : Int)) H
theorem mk_cntS {X : Cx} (hK : X.K = K) : MtR X "list.count" (rCntS K) := by
  subst hK
  intro pins s σ H x xs v us Q I rx rxs h
  obtain ⟨p, ss, z, e1, e2, hs, q⟩ := h
  subst e1 e2
  cases rx
  obtain ⟨u, e3, ru⟩ := rxs.one
  subst e3
  obtain ⟨t, e4⟩ := ru
  subst e4
  obtain ⟨its, rv, ⟨⟨cls, dd, data, sl⟩, n, ho, hc, hdn, hd⟩, hlen⟩ := I.list hs
  simp only at hc hd
  subst hc hd
  refine call_meets PySem.F.slot_list_count ⟨_, ho, rfl⟩ PySem.F.entry_list_count (PySem.F.args_list_count_2 _ _)
    (SeqAt.list_countAt p its.toArray n dd sl (.str z t) (strIs z)) ⟨ho, fun y hy => str_at rv y (by simpa using hy), ?_⟩
  refine ⟨.int ((ss.count z : Nat) : Int), H, I.tok _, ⟨s.toks, ?_⟩, q⟩
  have ec : its.toArray.toList.countP (strIs z) = ss.count z := str_cnt rv
  rw [← ec]
def cntD (xs ds : List PyData) : Option PyData := match ds with
  | [.str z] => (strsOf xs).map fun ss => .int ((ss.count z : Nat) : Int)
  | _ => none
theorem mf_cnt : RMD K (rCntS K) cntD := fun B H p us vs xs ds z x hp hu hv hF Q q => by
  unfold cntD at hF
  split at hF
  · rename_i y
    obtain ⟨ss, h1, rfl⟩ := Option.map_eq_some_iff.mp hF
    have e := strs_vals h1 hu
    subst e
    cases hv with
    | cons h2 h3 =>
      cases h3
      exact ⟨p, ss, y, rfl, by rw [h2.str_of], ex_l x hp, q _ B H (.refl x) (.int _)⟩
  · cases hF
/-! ### a choice that is tested -/
def tIfT (t u v : TT) : TT := fun σ H Q => t σ H fun d H1 => if d = true then u σ H1 Q else v σ H1 Q
theorem pt_ifT {X : Cx} {c a b : Expr} {t u v : TT} {pos : Pos} (hc : PT X c t) (ha : PT X a u) (hb : PT X b v) : PT X (.IfExp c a b pos) (tIfT t u v) := by
  refine ⟨fun pins s σ H Q I h => isTrue_IfExp (thn (hc.run pins s σ H _ I h) fun d s1 ⟨H1, I1, q1⟩ => ?_)⟩
  cases d with
  | true => exact ha.run pins s1 σ H1 Q I1 q1
  | false => exact hb.run pins s1 σ H1 Q I1 q1
theorem st_ifT {t u v : TT} {c d e0 : Dn Bool} (hc : ST K t c) (ha : ST K u d) (hb : ST K v e0) : ST K (tIfT t u v) (dIf c d e0) := fun W hW σ e B H a r e' h Q q => by
  obtain ⟨b, e1, h1, h⟩ := dBind_some h
  refine hc W hW σ e B H a b e1 h1 _ fun B1 H1 a1 g1 => ?_
  by_cases z : b = true
  · rw [if_pos z] at h ⊢
    exact ha W hW σ e1 B1 H1 a1 r e' h Q fun B2 H2 a2 g2 => q B2 H2 a2 (g1.trans g2)
  · rw [if_neg z] at h ⊢
    exact hb W hW σ e1 B1 H1 a1 r e' h Q fun B2 H2 a2 g2 => q B2 H2 a2 (g1.trans g2)
/-! ### data with texts, compared with itself -/
def okE : Nat → PyData → Bool
  | _, .none => true
  | _, .bool _ => true
  | _, .int _ => true
  | _, .str x => SeqAt.shaped (.str x)
  | n + 1, .list xs => xs.all (okE n)
  | n + 1, .tuple xs => xs.all (okE n)
  | _, _ => false
theorem okE_out : ∀ (n : Nat) (d : PyData), okE n d = true → d.canLay0 = true ∧ d.depth ≤ n ∧ PyData.eqv d d = true := by
  intro n
  induction n with
  | zero =>
    intro d h
    cases d with
    | str x => exact ⟨SeqAt.canLay_of_shaped h, by simp [PyData.depth], by simp [PyData.eqv]⟩
    | _ => first | (exfalso; exact Bool.noConfusion (show false = true from h)) | (refine ⟨?_, ?_, ?_⟩ <;> simp [PyData.canLay0, PyData.depth, PyData.eqv])
  | succ n ih =>
    have all : ∀ xs : List PyData, xs.all (okE n) = true → PyData.canLayAll0 xs = true ∧ PyData.depthAll xs ≤ n ∧ PyData.eqvAll xs xs = true := fun xs => by
      induction xs with
      | nil => exact fun _ => by simp [PyData.canLayAll0, PyData.depthAll, PyData.eqvAll]
      | cons x xs ihx =>
        intro h
        rw [List.all_cons, Bool.and_eq_true] at h
        obtain ⟨h1, h2, h3⟩ := ih x h.1
        obtain ⟨i1, i2, i3⟩ := ihx h.2
        refine ⟨by simp [PyData.canLayAll0, h1, i1], ?_, by simp [PyData.eqvAll, h3, i3]⟩
        simp only [PyData.depthAll]
        omega
    intro d h
    cases d with
    | none => refine ⟨?_, ?_, ?_⟩ <;> simp [PyData.canLay0, PyData.depth, PyData.eqv]
    | bool b => refine ⟨?_, ?_, ?_⟩ <;> simp [PyData.canLay0, PyData.depth, PyData.eqv]
    | int i => refine ⟨?_, ?_, ?_⟩ <;> simp [PyData.canLay0, PyData.depth, PyData.eqv]
    | str x => exact ⟨SeqAt.canLay_of_shaped h, by simp [PyData.depth], by simp [PyData.eqv]⟩
    | dict x => exact Bool.noConfusion (show false = true from h)
    | list xs =>
      obtain ⟨i1, i2, i3⟩ := all xs h
      refine ⟨by simp [PyData.canLay0, i1], ?_, by simp [PyData.eqv, i3]⟩
      simp only [PyData.depth]
      omega
    | tuple xs =>
      obtain ⟨i1, i2, i3⟩ := all xs h
      refine ⟨by simp [PyData.canLay0, i1], ?_, by simp [PyData.eqv, i3]⟩
      simp only [PyData.depth]
      omega
theorem okE_shaped {n : Nat} {d : PyData} (h : okE n d = true) (hn : n ≤ 64) : SeqAt.shaped d = true := by
  obtain ⟨h1, h2, _⟩ := okE_out n d h
  unfold SeqAt.shaped
  rw [h1, decide_eq_true (by omega)]
  rfl
theorem eqE_same (n : Nat) {d : PyData} (h : okE n d = true) (hn : n ≤ 64) : eqD d d = some (.bool true) := by
  unfold eqD
  rw [okE_shaped h hn, (okE_out n d h).2.2]
  rfl
theorem neE_same (n : Nat) {d : PyData} (h : okE n d = true) (hn : n ≤ 64) : neD d d = some (.bool false) := by
  unfold neD
  rw [okE_shaped h hn, (okE_out n d h).2.2]
  rfl
/-- a slot that may be set -/
def frB : Sl → Bool
  | .p _ => false
  | _ => true
theorem canSet_fr (e : En) (i : Nat) : canSet e i = (match e[i]? with | some s => frB s | none => false) := by
  unfold canSet
  cases h : e[i]? with
  | none => rfl
  | some s => cases s <;> rfl
@[simp] theorem frB_no : frB .no = true := rfl
@[simp] theorem frB_d (x : PyData) : frB (.d x) = true := rfl
@[simp] theorem frB_o (x : List PyData) : frB (.o x) = true := rfl
end
end Fd
end

section
set_option Elab.async false
set_option linter.all false
set_option maxRecDepth 100000
set_option maxHeartbeats 1000000
/-! Walks by meaning 16: a def handed in as an argument, that says True of all items of a row. -/
namespace Fd
open PySem PySem.Spec PyProof.Rows L2 Evl Tb
/-- f(row, a) where a stands at the address a and says True of each item: None -/
def spW (K : PySem.W.Frag) (F : List PyData → Option PyData) (a : Addr) : Sp := fun vs H Q _ => ∃ (B : Hp) (v1 : V) (b : Bool) (ds : List PyData), vs = [v1, .ref a] ∧ Ex B H ∧ Dp K B v1 (rows b ds) ∧ (∀ d ∈ ds, F [d] = some (.bool true)) ∧ ∀ H', Ex H H' → Q .non H'
theorem spW_len {K : PySem.W.Frag} {F : List PyData → Option PyData} {a : Addr} {ps : List Str} (hn : 2 = ps.length) : ∀ vs H Q E, spW K F a vs H Q E → vs.length = ps.length := fun vs H Q E h => by
  obtain ⟨_, _, _, _, rfl, _⟩ := h
  exact hn
def saysT (F : List PyData → Option PyData) (d : PyData) : Bool := match F [d] with
  | some (.bool true) => true
  | _ => false
theorem saysT_out {F : List PyData → Option PyData} {d : PyData} (h : saysT F d = true) : F [d] = some (.bool true) := by
  unfold saysT at h
  split at h
  · assumption
  · cases h
def dFw (F : List PyData → Option PyData) (f : Dn PyData) : Dn PyData := dBind f fun d => match itemsOf d with
  | some ds => if ds.all (saysT F) = true then dK .none else fun _ => none
  | none => fun _ => none
theorem items_isRows {d : PyData} {ds : List PyData} (h : itemsOf d = some ds) : ∃ b, d = rows b ds := by
  cases d <;> cases h
  · exact ⟨true, rfl⟩
  · exact ⟨false, rfl⟩
section
variable {K : PySem.W.Frag} {te : TE} {f : Dn PyData} {E : XK}
theorem se_fw {F : List PyData → Option PyData} {a : Addr} (h : SE K te f) : SE K (tCall (spW K F a) [] E (tCons te (tCons (tC (.ref a)) tNil))) (dFw F f) := fun W hW σ e B H at_ d e' h' Q q => by
  obtain ⟨x, e1, h1, h2⟩ := dBind_some h'
  have h3 : (match itemsOf x with
    | some ds => if ds.all (saysT F) = true then dK PyData.none else fun _ => none
    | none => fun _ => none) e1 = some (d, e') := h2
  cases hds : itemsOf x with
  | none =>
    rw [hds] at h3
    cases h3
  | some ds =>
    rw [hds] at h3
    by_cases hall : ds.all (saysT F) = true
    · have h4 : (if ds.all (saysT F) = true then dK PyData.none else fun _ => none) e1 = some (d, e') := h3
      rw [if_pos hall] at h4
      obtain ⟨rfl, rfl⟩ := dK_some h4
      obtain ⟨b, rfl⟩ := items_isRows hds
      rw [List.all_eq_true] at hall
      exact h W hW σ e B H at_ _ _ h1 _ fun v B1 H1 a1 g1 d1 => ⟨B1, v, b, ds, rfl, a1.ex, d1, fun d hd => saysT_out (hall d hd), fun H2 e2 => q _ B1 H2 (a1.gr (Gr.ex a1.ex e2)) (g1.trans (gx_gr (Gr.ex a1.ex e2))) .non⟩
    · have h4 : (if ds.all (saysT F) = true then dK PyData.none else fun _ => none) e1 = some (d, e') := h3
      rw [if_neg hall] at h4
      cases h4
end
/-- a def by another name of the module -/
theorem has_ofA {P : Program} {w : World} {K : PySem.W.Frag} {mg : Str → Option Value} {base : Heap} {CX : CXT} {x y qual : Str} {st : Stmt} {f : Addr} {fd : FuncData} {k : Nat} {ps : List Str} {sp : Sp}
    (F : FunD K y qual (defArgs st) (defBody st) (defScope st) [] [] f fd) (hm : mg x = some (.ref f)) (ok : FnOk P w K mg base CX k f fd ps sp)
    (h : ∀ (kV doc pm : Value) (an : Option Addr) (cdv ct : Value) (us : List Value), us.length = ps.length → bindArgs (PySem.W.fnOf y qual (defArgs st) (defBody st) (defScope st) .none kV doc pm an cdv ct) ⟨us, []⟩ = pure (ps.zip us)) :
    Has P w K mg base CX x k ps [] sp := by
  refine ⟨f, fd, [], ok, hm, F.kp, .nil, ?_⟩
  obtain ⟨oc, od, dV, kV, doc, pm, an, cdv, ct, osl, rfl, lk, hcd, hD, hK⟩ := F.ex
  rcases hD with ⟨_, rfl⟩ | ⟨e, _⟩
  · exact .all (h kV doc pm an cdv ct)
  · exact absurd rfl e

theorem has_mkA {P : Program} {w : World} {K : PySem.W.Frag} {mg : Str → Option Value} {base : Heap} {CX : CXT} {x y qual : Str} {st : Stmt} {f : Addr} {fd : FuncData} {k : Nat} {N ps : List Str} {sp : Sp}
    (F : FunD K y qual (defArgs st) (defBody st) (defScope st) [] [] f fd) (hm : mg x = some (.ref f)) (S : FnScope N ps (defScope st)) (len : ∀ vs H Q E, sp vs H Q E → vs.length = ps.length)
    (h : ∀ (kV doc pm : Value) (an : Option Addr) (cdv ct : Value) (us : List Value), us.length = ps.length → bindArgs (PySem.W.fnOf y qual (defArgs st) (defBody st) (defScope st) .none kV doc pm an cdv ct) ⟨us, []⟩ = pure (ps.zip us))
    (body : ∀ (cdv : Value) (A : Around) (outer : List Env) (s : Shared) (H : Hp) (vs : List V) (Q : VK) (E : XK), Room k (A.deeper (envOfC qual (defScope st) s.heap.objs.size f cdv)) → sp vs H Q E →
      ∃ t, PSs (cxOf CX P w K mg base N qual (defScope st) f cdv A outer s H E).nox (defBody st) t ∧ t { nx := fun _ H' => Q .non H', rt := Q } (start N vs) H) :
    Has P w K mg base CX x (k + 1) ps [] sp :=
  has_ofA F hm (F.ok S len fun cdv A outer s H vs Q E hr hs => by
    obtain ⟨t, h1, h2⟩ := body cdv A outer s H vs Q E hr hs
    exact ⟨t, h1.nox, h2⟩) h
/-- CX lets nothing out at all -/
def NoY (CX : CXT) : Prop := ∀ X : Cx, Passes CX X E0
theorem noY0 : NoY CX0 := fun _ => pass0
end Fd
end

section
set_option Elab.async false
set_option linter.all false
set_option maxRecDepth 100000
set_option maxHeartbeats 1000000
/-! Walks by meaning 17: what the top leaves of own exception classes with one field. -/
namespace Fd
open PySem PySem.Spec PyProof.Rows L2 Evl Tb
/-- the class object of an own exception below ValueError -/
def excFit (K : PySem.W.Frag) (C : Addr) : Bool := match K.lookup C with
  | some o => (match o.cls, o.data with
    | .type t, .cls cd => (match cd.mro, o.slots.toList with
      | .ref C' :: bm, [_, _, _, _, some (.builtin n), _] => t == "type" && (C' == C && (n == "ValueError.__new__" && (!cd.hasDel && (cd.hasDict && PySem.HandSPX.refsVE bm))))
      | _, _ => false)
    | _, _ => false)
  | none => false
theorem excFit_ok {K : PySem.W.Frag} {C : Addr} (h : excFit K C = true) : ∃ nm q N bs bm sn sub ab col dd k0 k1 k2 k3 k5, K.lookup C = some (excClassObj nm q C N bs bm true sn sub ab col dd k0 k1 k2 k3 k5 "ValueError.__new__") ∧ PySem.HandSPX.refsVE bm = true := by
  unfold excFit at h
  split at h
  · rename_i o ho
    split at h
    · rename_i t cd hc hd
      split at h
      · rename_i C2 bm k0 k1 k2 k3 nw k5 hm hs
        simp only [Bool.and_eq_true, beq_iff_eq, Bool.not_eq_true'] at h
        obtain ⟨rfl, rfl, rfl, hdel, hdic, hb⟩ := h
        obtain ⟨cls, dd, data, sl⟩ := o
        dsimp only at hc hd hs
        subst hc hd
        obtain ⟨nm, bs, mro, ns, qn, hd2, sn, sub, ab, col, del⟩ := cd
        dsimp only at hm hdel hdic
        subst hm hdel hdic
        have hsl : sl = #[k0, k1, k2, k3, some (.builtin "ValueError.__new__"), k5] := by
          obtain ⟨l⟩ := sl
          simp only at hs
          rw [hs]
        subst hsl
        exact ⟨nm, qn, ns, bs, bm, sn, sub, ab, col, dd, k0, k1, k2, k3, k5, ho, hb⟩
      · cases h
    · cases h
  · cases h
def isO (K : PySem.W.Frag) (C : Addr) (f : Str) (o : Option (Option Value)) : Bool := decide (PySem.W.findIn K (.ref C) f = o)
/-- all that is asked of the class x with the field f -/
def exB (K : PySem.W.Frag) (x f : Str) : Bool :=
  excFit K (He.ga K x) && (isO K (He.ga K x) "__setattr__" (some (some (.builtin "object.__setattr__"))) && (decide (PySem.W.subIn K (.ref (He.ga K x)) (.type "BaseException") = some true) &&
  (decide (PySem.W.typeIn K (.ref (He.ga K x)) = some (.type "type")) && (PySem.W.keepIn K (.ref (He.ga K x)) && (isO K (He.ga K x) f (some none) && (isO K (He.ga K x) "__init__" (some (some (.ref (He.fAd K (x, some "__init__"))))) &&
  (decide (PySem.W.typeIn K (.ref (He.fAd K (x, some "__init__"))) = some (.type "function")) && xfB K (He.ga K x))))))))
structure ExF (K : PySem.W.Frag) (x f : Str) : Prop where
  T : OexC K (He.ga K x)
  no : PySem.W.findIn K (.ref (He.ga K x)) f = some none
  iC : PySem.W.findIn K (.ref (He.ga K x)) "__init__" = some (some (.ref (He.fAd K (x, some "__init__"))))
  tI : PySem.W.typeIn K (.ref (He.fAd K (x, some "__init__"))) = some (.type "function")
  xf : XfC K (He.ga K x)
theorem exB_ok {K : PySem.W.Frag} {x f : Str} (h : exB K x f = true) : ExF K x f := by
  obtain ⟨h1, more⟩ := Bool.and_eq_true_iff.mp h
  obtain ⟨h2, more⟩ := Bool.and_eq_true_iff.mp more
  obtain ⟨h3, more⟩ := Bool.and_eq_true_iff.mp more
  obtain ⟨h4, more⟩ := Bool.and_eq_true_iff.mp more
  obtain ⟨h5, more⟩ := Bool.and_eq_true_iff.mp more
  obtain ⟨h6, more⟩ := Bool.and_eq_true_iff.mp more
  obtain ⟨h7, more⟩ := Bool.and_eq_true_iff.mp more
  obtain ⟨h8, h9⟩ := Bool.and_eq_true_iff.mp more
  exact ⟨⟨excFit_ok h1, of_decide_eq_true h2, of_decide_eq_true h3, of_decide_eq_true h4, h5⟩, of_decide_eq_true h6, of_decide_eq_true h7, of_decide_eq_true h8, xfB_ok h9⟩
/-- the hook: facts, defs, rows of words, exception classes with their fields -/
def obsE (fa : List He.Fa) (fn : List He.DefD) (ts : List (Str × List Str)) (ex : List (Str × Str)) (K : PySem.W.Frag) : AlT := (He.obsD fa fn K, (ts.all fun t => He.tupB K t.1 (t.2.map .str)) && ex.all fun p => exB K p.1 p.2)
def obsEG (n : Nat) (fa : List He.Fa) (fn : List He.DefD) (ts : List (Str × List Str)) (ex : List (Str × Str)) (g : Addr → Option Obj) : AlT := obsE fa fn ts ex (He.frG g (He.asD g n))
def hookE (n : Nat) (fa : List He.Fa) (fn : List He.DefD) (ts : List (Str × List Str)) (ex : List (Str × Str)) : PySem.W.Hook where
  α := AlT
  obs := fun s => obsEG n fa fn ts ex s.heap.get?
  val := fun _ => (He.valD fn, true)
  says := fun _ h => ∃ K : PySem.W.Frag, K.In h ∧ obsE fa fn ts ex K = (He.valD fn, true)
  of := fun _ _ e => ⟨_, He.frG_in, e⟩
  keeps := fun _ _ _ ⟨F, inF, c⟩ k => ⟨F, PySem.W.Frag.In.keeps inF k, c⟩
theorem obsEG_eq {n : Nat} {fa : List He.Fa} {fn : List He.DefD} {ts : List (Str × List Str)} {ex : List (Str × Str)} {g : Addr → Option Obj} {s : Shared} (h : ∀ a, g a = s.heap.get? a) : obsEG n fa fn ts ex g = (hookE n fa fn ts ex).obs s := by
  have same : g = s.heap.get? := funext h
  rw [same] <;> rfl
section
variable {K : PySem.W.Frag} {fa : List He.Fa} {fn : List He.DefD} {ts : List (Str × List Str)} {ex : List (Str × Str)}
theorem saysE_T (c : obsE fa fn ts ex K = (He.valD fn, true)) : obsT fa fn ts K = (He.valD fn, true) := by
  have c1 : He.obsD fa fn K = He.valD fn := congrArg (fun z : AlT => z.1) c
  have c2 : ((ts.all fun t => He.tupB K t.1 (t.2.map .str)) && ex.all fun p => exB K p.1 p.2) = true := congrArg (fun z : AlT => z.2) c
  have c3 := (Bool.and_eq_true_iff.mp c2).1
  unfold obsT
  rw [c1, c3]
theorem saysE_x (c : obsE fa fn ts ex K = (He.valD fn, true)) (i : Nat) {x f : Str} (h : ex[i]? = some (x, f)) : ExF K x f := by
  have c2 : ((ts.all fun t => He.tupB K t.1 (t.2.map .str)) && ex.all fun p => exB K p.1 p.2) = true := congrArg (fun z : AlT => z.2) c
  exact exB_ok (List.all_eq_true.mp (Bool.and_eq_true_iff.mp c2).2 (x, f) (List.mem_of_getElem? h))
end
/-! ### promises weakened -/
section
variable {P : Program} {w : World} {K : PySem.W.Frag} {mg : Str → Option Value} {base : Heap} {CX : CXT} {x : Str} {j k : Nat} {ps : List Str} {dvs : List V} {sp sp' : Sp}
theorem has_imp (A : Has P w K mg base CX x j ps dvs sp) (hk : j ≤ k) (h : ∀ vs H Q E, sp' vs H Q E → sp vs H Q E) : Has P w K mg base CX x k ps dvs sp' := by
  obtain ⟨f, fd, ds, F, h1, h2, h3, h4⟩ := A.ex
  exact ⟨f, fd, ds, (F.imp h).mono hk, h1, h2, h3, h4⟩
/-- what lets no exception out, lets none out -/
theorem has_calm (A : Has P w K mg base (L2.CX P w) x j ps dvs sp) (hk : j ≤ k) (h : ∀ vs H Q E, sp' vs H Q E → sp vs H Q E0) : Has P w K mg base L2.CX0 x k ps dvs sp' := by
  obtain ⟨f, fd, ds, F, h1, h2, h3, h4⟩ := A.ex
  refine ⟨f, fd, ds, FnOk.mono ⟨fun vs H Q E q => F.len vs H Q E0 (h _ _ _ _ q), fun A outer s H args us vs Q E hr he hb hv hs => ?_⟩ hk, h1, h2, h3, h4⟩
  refine codeAny_mono (F.run A outer s H args us vs Q E0 hr he hb hv (h _ _ _ _ hs)) fun r s' hq => ?_
  cases r with
  | error e =>
    obtain ⟨_, _, _, _, _, _, _, _, _, _, _, _, z⟩ := hq
    exact z.elim
  | ok v => cases v <;> exact hq
/-- a relation as a function -/
noncomputable def FR (R : List PyData → PyData → Prop) (ds : List PyData) : Option PyData := by
  classical exact if h : ∃ z, R ds z then some (Classical.choose h) else none
theorem FR_out {R : List PyData → PyData → Prop} {ds : List PyData} {z : PyData} (h : FR R ds = some z) : R ds z := by
  unfold FR at h
  split at h
  · rename_i hz
    cases h
    exact Classical.choose_spec hz
  · cases h
theorem FR_is {R : List PyData → PyData → Prop} {ds : List PyData} {z : PyData} (h : R ds z) (u : ∀ y, R ds y → y = z) : FR R ds = some z := by
  unfold FR
  have hz : ∃ z, R ds z := ⟨z, h⟩
  rw [dif_pos hz]
  exact congrArg some (u _ (Classical.choose_spec hz))
theorem sp_FR {n : Nat} {R : List PyData → PyData → Prop} (vs : List V) (H : Hp) (Q : VK) (E : XK) (h : spF K n (FR R) vs H Q E) : spP K n R vs H Q E := by
  obtain ⟨B, ds, d, x, hl, hd, hF, q⟩ := h
  exact ⟨B, ds, d, x, hl, hd, FR_out hF, q⟩
/-- a def that is proved to tell R, as a def that tells a function -/
theorem has_FR {n : Nat} {R : List PyData → PyData → Prop} (A : Has P w K mg base CX x j ps dvs (spP K n R)) (hk : j ≤ k) : Has P w K mg base CX x k ps dvs (spF K n (FR R)) := has_imp A hk sp_FR
end
end Fd
end

section
set_option Elab.async false
set_option linter.all false
set_option maxRecDepth 100000
set_option maxHeartbeats 1000000
/-! k04: what is proved of defs one by one, as functions. -/
namespace Tk
open PySem PySem.Spec PyProof.Rows L2 Evl Tb Fd
/-- coins that are read to their end -/
def R_hof (ds : List PyData) (z : PyData) : Prop := ∃ (b b2 : Bool) (cs l : List Int) (r : Ru), ds = [rows b (cs.map .int), ruD b2 r] ∧ (∀ c ∈ cs, c = 0 ∨ c = 1) ∧ okR r ∧ cs.length ≤ 20000 ∧ ¬ badR r cs ∧ rdF r (2 * cs.length + 1) 0 cs = some l ∧ z = .list (l.map .int)
theorem sp_hof {K : PySem.W.Frag} {CS CP : Addr} (vs : List V) (H : Hp) (Q : VK) (E : XK) (h : spF K 2 (FR R_hof) vs H Q E) : spHof K CS CP vs H Q E0 := by
  obtain ⟨B, ds, d, x, hl, hd, hF, q⟩ := h
  obtain ⟨b, b2, cs, l, r, rfl, h01, ok, hlen, nb, hr, rfl⟩ := FR_out hF
  match vs, hd with
  | [v1, v2], .cons h1 (.cons h2 .nil) =>
    refine ⟨B, v1, v2, b, b2, cs, r, rfl, x, h1, h2, h01, ok, hlen, fun hb => absurd hb nb, fun _ => ⟨fun l' hl' v G H' g hv => ?_, fun hn => ?_⟩⟩
    · rw [hr] at hl'
      cases hl'
      exact q v G H' g hv
    · rw [hr] at hn
      cases hn
theorem has_hof {P : Program} {w : World} {K : PySem.W.Frag} {mg : Str → Option Value} {base : Heap} {CS CP : Addr} {j k : Nat} (A : Has P w K mg base (L2.CX P w) "heights_of" j ["coins", "rule"] [] (spHof K CS CP)) (hk : j ≤ k) : Has P w K mg base L2.CX0 "heights_of" k ["coins", "rule"] [] (spF K 2 (FR R_hof)) := has_calm A hk sp_hof
noncomputable def F_most := FR R_most
noncomputable def F_coins_for := FR R_coins_for
noncomputable def F_coins_of := FR R_coins_of
noncomputable def F_toss := FR R_toss
noncomputable def F_heights_of := FR R_hof
noncomputable def F__law_end := FR R_law_end
noncomputable def F__law_coins := FR R_law_coins
noncomputable def F__law_due := FR R_law_due
noncomputable def F__law_bare := FR R_law_bare
noncomputable def F__law_read := FR R_law_read
noncomputable def F__law_said := FR R_law_said
end Tk
end

section
set_option Elab.async false
set_option linter.all false
set_option maxRecDepth 100000
set_option maxHeartbeats 1000000
/-! What each def means. -/
namespace Tk
open PySem PySem.Spec PyProof.Rows L2 Evl Tb Fd
noncomputable def m__law_source_of : Ds :=
    (sSeq (sAsg (dIf (dTest (dOp geD (dVar 0) (dK (.int 0)))) (dVar 0) (dOp subD (dOp subD (dK (.int 0)) (dOp mulD (dK (.int 3)) (dVar 0))) (dK (.int 1)))) (dName 0))
    (sRetL (dLst (dCons (dOp mulD (dVar 0) (dCb intD (dCons (dOp geD (dVar 0) (dOp powD (dK (.int 10)) (dK (.int 18)))) (dK [])))) (dCons (dOp modD (dCb intD (dCons (dVar 0) (dK []))) (dK (.int 2147483647))) (dCons (dK (.int 0)) (dK [])))))))
noncomputable def F__law_source_of (ds : List PyData) := fnL 0 m__law_source_of ds
noncomputable def m__law_next : Ds :=
    (sSeq (sIf (dTest (dOp gtD (dIxV 0 (dK (.int 0))) (dK (.int 0))))
    (sSeq (sAsg (dOp modD (dCb intD (dCons (dIxV 0 (dK (.int 0))) (dK []))) (dVar 1)) (dName 2))
    (sSeq (sSetIx 0 (dOp divD (dIxV 0 (dK (.int 0))) (dVar 1)) (dK (.int 0)))
    (sRet (dVar 2))))
    (fun e => some (.nx e)))
    (sSeq (sSetIx 0 (dOp addD (dIxV 0 (dK (.int 2))) (dK (.int 1))) (dK (.int 2)))
    (sSeq (sAsg (dK (.int 2147483647)) (dName 3))
    (sSeq (sAsg (dOp modD (dCb intD (dCons (dOp addD (dOp addD (dIxV 0 (dK (.int 1))) (dOp mulD (dK (.int 104729)) (dIxV 0 (dK (.int 2))))) (dK (.int 7919))) (dK []))) (dVar 3)) (dName 4))
    (sSeq (sAsg (dOp modD (dCb intD (dCons (dOp mulD (dVar 4) (dK (.int 48271))) (dK []))) (dVar 3)) (dName 4))
    (sSeq (sAsg (dOp modD (dCb intD (dCons (dOp mulD (dVar 4) (dOp addD (dOp divD (dVar 4) (dK (.int 1009))) (dK (.int 69621)))) (dK []))) (dVar 3)) (dName 4))
    (sSeq (sAsg (dOp modD (dCb intD (dCons (dOp mulD (dVar 4) (dOp addD (dOp divD (dVar 4) (dK (.int 2003))) (dK (.int 40692)))) (dK []))) (dK (.int 2147483399))) (dName 4))
    (sRet (dOp modD (dCb intD (dCons (dOp divD (dVar 4) (dK (.int 7))) (dK []))) (dVar 1))))))))))
noncomputable def F__law_next (xs ds : List PyData) := fnM 3 m__law_next xs ds
noncomputable def m__law_one : Ds :=
    (sRet (dOp ixD (dVar 1) (dCallM 0 2 F__law_next (dCons (dCb lenD (dCons (dVar 1) (dK []))) (dK [])))))
noncomputable def F__law_one (xs ds : List PyData) := fnM 0 m__law_one xs ds
noncomputable def m__law_rule : Ds :=
    (sSeq (sAsg (dCallM 0 2 F__law_one (dCons (dFz (dLst (dCons (dK (.int 1)) (dCons (dK (.int 2)) (dCons (dK (.int 3)) (dCons (dK (.int 3)) (dCons (dK (.int 5)) (dCons (dK (.int 8)) (dCons (dK (.int 64)) (dK [])))))))))) (dK []))) (dName 1))
    (sRet (dCallM 0 2 F__law_one (dCons (dFz (dLst (dCons (dTup (dCons (dK (.str "free")) (dK []))) (dCons (dTup (dCons (dK (.str "step")) (dK []))) (dCons (dTup (dCons (dK (.str "cap")) (dCons (dVar 1) (dK [])))) (dCons (dFz (dLst (dCons (dK (.str "cap")) (dCons (dVar 1) (dK []))))) (dCons (dTup (dCons (dK (.str "step")) (dCons (dVar 1) (dK [])))) (dCons (dFz (dLst (dCons (dK (.str "free")) (dK [])))) (dCons (dFz (dLst (dCons (dK (.str "step")) (dCons (dVar 1) (dK []))))) (dK [])))))))))) (dK [])))))
noncomputable def F__law_rule (xs ds : List PyData) := fnM 1 m__law_rule xs ds
noncomputable def m__law_heights_L1 : Ds :=
    (sSeq (sAsg (dCall 2 F__law_end [] (dCons (dVar 1) (dCons (dVar 3) (dK [])))) (dName 5))
    (sSeq (sAsg (dOp addD (dK (.int 1)) (dCallM 0 2 F__law_one (dCons (dFz (dLst (dCons (dK (.int 0)) (dCons (dK (.int 0)) (dCons (dK (.int 1)) (dCons (dK (.int 1)) (dCons (dK (.int 2)) (dCons (dK (.int 3)) (dCons (dK (.int 9)) (dK [])))))))))) (dK [])))) (dName 6))
    (sSeq (sIf (dAndT (dTest (dOp notNonD (dVar 5) (dK .none))) (dTest (dOp gtD (dCallM 0 2 F__law_next (dCons (dK (.int 12)) (dK []))) (dK (.int 0)))))
    (sAsg (dCb min2D (dCons (dVar 6) (dCons (dVar 5) (dK [])))) (dName 6))
    (fun e => some (.nx e)))
    (sSeq (sMeth 2 appF (dCons (dVar 6) (dK [])))
    (sAsg (dCb max2D (dCons (dVar 3) (dCons (dVar 6) (dK [])))) (dName 3))))))
noncomputable def m__law_heights : Ds :=
    (sSeq (sParX (xConsL (dLst (dK [])) (xCons (dK (.int 0)) xNil)) [2, 3])
    (sSeq (sFor (dRg1 (dCons (dCallM 0 2 F__law_next (dCons (dK (.int 14)) (dK []))) (dK []))) (dName 4)
    m__law_heights_L1)
    (sRetO 2)))
noncomputable def F__law_heights (xs ds : List PyData) := fnML 5 m__law_heights xs ds
noncomputable def m__law_single_right_L1 : Ds :=
    (sSeq (sAsg (dCall 3 F_coins_for [] (dCons (dVar 4) (dCons (dVar 1) (dCons (dVar 2) (dK []))))) (dName 5))
    (sSeq (sIf (dTest (dOp neD (dVar 5) (dCall 2 F__law_coins [] (dCons (dVar 4) (dCons (dVar 3) (dK []))))))
    (sRet (dK (.bool false)))
    (fun e => some (.nx e)))
    (sIf (dTest (dOp notNonD (dVar 5) (dK .none)))
    (sSeq (sAsg (dCb tupD (dCons (dFz (dLc (dRg1 (dCons (dCallM 0 2 F__law_next (dCons (dK (.int 4)) (dK []))) (dK []))) (dName 8) (dK true) (dCallM 0 2 F__law_next (dCons (dK (.int 2)) (dK []))) [8])) (dK []))) (dName 6))
    (sSeq (sAsg (dFz (dLc (dRg1 (dCons (dCallM 0 2 F__law_next (dCons (dK (.int 4)) (dK []))) (dK []))) (dName 8) (dK true) (dCallM 0 2 F__law_next (dCons (dK (.int 2)) (dK []))) [8])) (dName 7))
    (sIf (dTest (dOp neD (dCall 4 F_toss [] (dCons (dOp addD (dFz (dCbL lstD (dCons (dOp addD (dVar 6) (dVar 5)) (dK [])))) (dVar 7)) (dCons (dCb lenD (dCons (dVar 6) (dK []))) (dCons (dVar 1) (dCons (dVar 2) (dK [])))))) (dTup (dCons (dVar 4) (dCons (dOp addD (dCb lenD (dCons (dVar 6) (dK []))) (dCb lenD (dCons (dVar 5) (dK [])))) (dK []))))))
    (sRet (dK (.bool false)))
    (fun e => some (.nx e)))))
    (fun e => some (.nx e)))))
noncomputable def m__law_single_right : Ds :=
    (sSeq (sAsg (dCallM 0 2 F__law_one (dCons (dFz (dLst (dCons (dK (.int 0)) (dCons (dK (.int 1)) (dCons (dK (.int 2)) (dCons (dK (.int 5)) (dCons (dK (.int 60)) (dK [])))))))) (dK []))) (dName 2))
    (sSeq (sAsg (dCall 2 F__law_end [] (dCons (dVar 1) (dCons (dVar 2) (dK [])))) (dName 3))
    (sSeq (sIf (dTest (dOp neD (dCall 2 F_most [] (dCons (dVar 1) (dCons (dVar 2) (dK [])))) (dVar 3)))
    (sRet (dK (.bool false)))
    (fun e => some (.nx e)))
    (sSeq (sFor (dRg2 (dCons (dK (.int 1)) (dCons (dK (.int 12)) (dK [])))) (dName 4)
    m__law_single_right_L1)
    (sRet (dK (.bool true)))))))
noncomputable def F__law_single_right (xs ds : List PyData) := fnM 7 m__law_single_right xs ds
noncomputable def m_law_L1 : Ds :=
    (sSeq (sAsg (dCallM 2 1 F__law_rule (dK [])) (dName 4))
    (sSeq (sAsg (dFz (dCallM 2 2 F__law_heights (dCons (dVar 4) (dK [])))) (dName 5))
    (sSeq (sAsg (dCall 2 F__law_due [] (dCons (dVar 5) (dCons (dVar 4) (dK [])))) (dName 6))
    (sSeq (sIf (dOrT (dTest (dOp neD (dCall 2 F_coins_of [] (dCons (dVar 5) (dCons (dVar 4) (dK [])))) (dVar 6))) (dTest (dOp neD (dCall 2 F_coins_of [] (dCons (dCb tupD (dCons (dVar 5) (dK []))) (dCons (dVar 4) (dK [])))) (dVar 6))))
    (sRet (dK (.bool false)))
    (fun e => some (.nx e)))
    (sSeq (sIf (dAndT (dTest (dOp notNonD (dVar 6) (dK .none))) (dTest (dOp neD (dCall 2 F_heights_of [] (dCons (dVar 6) (dCons (dVar 4) (dK [])))) (dCall 2 F__law_bare [] (dCons (dVar 5) (dCons (dVar 4) (dK [])))))))
    (sRet (dK (.bool false)))
    (fun e => some (.nx e)))
    (sSeq (sAsg (dFz (dLc (dRg1 (dCons (dCallM 2 2 F__law_next (dCons (dK (.int 61)) (dK []))) (dK []))) (dName 10) (dK true) (dCallM 2 2 F__law_one (dCons (dFz (dLst (dCons (dK (.int 0)) (dCons (dK (.int 1)) (dCons (dCallM 2 2 F__law_next (dCons (dK (.int 2)) (dK []))) (dK [])))))) (dK []))) [10])) (dName 7))
    (sSeq (sAsg (dCall 2 F__law_said [] (dCons (dVar 7) (dCons (dVar 4) (dK [])))) (dName 8))
    (sSeq (sIf (dTest (dOp neD (dVar 8) (dCall 2 F__law_read [] (dCons (dVar 7) (dCons (dVar 4) (dK []))))))
    (sRet (dK (.bool false)))
    (fun e => some (.nx e)))
    (sSeq (sIf (dAndT (dTru (dUn (isiD "list") (dVar 8))) (dTest (dOp neD (dCall 2 F_coins_of [] (dCons (dVar 8) (dCons (dVar 4) (dK [])))) (dCb tupD (dCons (dVar 7) (dK []))))))
    (sRet (dK (.bool false)))
    (fun e => some (.nx e)))
    (sIf (dNotT (dTru (dCallM 2 2 F__law_single_right (dCons (dVar 4) (dK [])))))
    (sRet (dK (.bool false)))
    (fun e => some (.nx e))))))))))))
noncomputable def m_law_L2 : Ds :=
    (sSeq (sAsgO (dCallL 1 F__law_source_of [] (dCons (dVar 1) (dK []))) 2)
    (sFor (dRg1 (dCons (dK (.int 3)) (dK []))) (dName 3)
    m_law_L1))
noncomputable def m_law : Ds :=
    (sSeq (sFor (dItems (dOp addD (dSl (dVar 0) (dK none) (dPart (dK (.int 6)))) (dFz (dLst (dCons (dK (.int 0)) (dK [])))))) (dName 1)
    m_law_L2)
    (sSeq (sAsg (dOp subD (dK (.int 1000)) (dCallN 2 F__law_next (dCallL 1 F__law_source_of [] (dCons (dIf (dTest (dOp neD (dVar 0) (dFz (dLst (dK []))))) (dOp ixD (dVar 0) (dK (.int 0))) (dK (.int 3))) (dK []))) (dCons (dK (.int 30)) (dK [])))) (dName 9))
    (sSeq (sIf (dOrT (dTest (dOp neD (dCall 2 F_heights_of [] (dCons (dOp mulD (dTup (dCons (dK (.int 0)) (dK []))) (dVar 9)) (dCons (dFz (dLst (dCons (dK (.str "free")) (dK [])))) (dK [])))) (dFz (dRep (dLst (dCons (dK (.int 1)) (dK []))) (dVar 9))))) (dTest (dOp neD (dCall 2 F_coins_of [] (dCons (dFz (dRep (dLst (dCons (dK (.int 1)) (dK []))) (dVar 9))) (dCons (dTup (dCons (dK (.str "cap")) (dCons (dK (.int 2)) (dK [])))) (dK [])))) (dOp mulD (dTup (dCons (dK (.int 0)) (dK []))) (dVar 9)))))
    (sRet (dK (.bool false)))
    (fun e => some (.nx e)))
    (sRet (dAnd (dOp eqD (dCall 2 F_coins_of [] (dCons (dTup (dK [])) (dCons (dTup (dCons (dK (.str "step")) (dK []))) (dK [])))) (dTup (dK []))) (dOp eqD (dCall 2 F_heights_of [] (dCons (dFz (dLst (dK []))) (dCons (dTup (dCons (dK (.str "cap")) (dCons (dK (.int 1)) (dK [])))) (dK [])))) (dFz (dLst (dK [])))))))))
noncomputable def F_law (ds : List PyData) := fnD 10 m_law ds
end Tk
end

section
set_option Elab.async false
set_option linter.all false
set_option maxRecDepth 100000
set_option maxHeartbeats 1000000
/-! Each def does what it means. -/
namespace Tk
open PySem PySem.Spec PyProof.Rows L2 Evl Tb Fd
section
variable {P : Program} {w : World} {K : PySem.W.Frag} {mg : Str → Option Value} {base : Heap} {CX : CXT} {f : Addr} {fd : FuncData}
abbrev s__law_source_of : Stmt := topS 30
abbrev n__law_source_of : List Str := ["_law_cell"]
theorem sc__law_source_of : FnScope n__law_source_of ["_law_cell"] (defScope s__law_source_of) := ⟨rfl, rfl, rfl, by decide +kernel, rfl, by decide +kernel, by decide +kernel⟩
theorem H__law_source_of (bl : Bm mg) (nx : NoY CX) (F : FunD K "_law_source_of" "_law_source_of" (defArgs s__law_source_of) (defBody s__law_source_of) (defScope s__law_source_of) [] [] f fd) (hm : mg "_law_source_of" = some (.ref f)) :
    Has P w K mg base CX "_law_source_of" 1 ["_law_cell"] [] (spL K 1 F__law_source_of) := by
  refine has_mk F hm sc__law_source_of (spL_len rfl) (fun _ _ _ _ _ _ us hl => match us, hl with | [_], _ => rfl) fun cdv A outer s H vs Q E hr h => ?_
  refine ⟨_, (pss_cons (ps_set (i := 0) sc__law_source_of.nd rfl (by first | exact .inl rfl | exact .inr rfl) (pe_ifExp (pt_cmpR op_geU (pv 0) pe_int (nomark _)) (pv 0) (pe_op op_sub (pe_op op_sub pe_int (pe_op (ok_mulU (K := K) rfl) pe_int (pv 0))) pe_int))) (pss_one (ps_ret (pe_lst (pa_cons (pe_op (ok_mulU (K := K) rfl) (pv 0) (pe_callTy call_intU (by rfl) bl.int bb_int (pa_cons (pe_cmpR op_geU (pv 0) (pe_op op_pow pe_int pe_int) (nomark _)) pa_nil))) (pa_cons (pe_op op_mod (pe_callTy call_intU (by rfl) bl.int bb_int (pa_cons (pv 0) pa_nil)) pe_int) (pa_cons pe_int pa_nil))))))), body_L (n := 0) ?_ rfl h⟩
  exact (ss_seq (ss_asg (se_if (st_test (se_ge se_var se_int)) se_var (se_sub (se_sub se_int (se_mul se_int se_var)) se_int)) sg_name) (ss_retL (sl_lst (sa_cons (se_mul se_var (se_intC (sa_cons (se_ge se_var (se_pow se_int se_int)) sa_nil))) (sa_cons (se_mod (se_intC (sa_cons se_var sa_nil)) se_int) (sa_cons se_int sa_nil))))))
abbrev s__law_next : Stmt := topS 31
abbrev n__law_next : List Str := ["_law_source", "_law_many", "_law_found", "_law_prime", "_law_number"]
theorem sc__law_next : FnScope n__law_next ["_law_source", "_law_many"] (defScope s__law_next) := ⟨rfl, rfl, rfl, by decide +kernel, rfl, by decide +kernel, by decide +kernel⟩
theorem H__law_next (bl : Bm mg) (nx : NoY CX) (F : FunD K "_law_next" "_law_next" (defArgs s__law_next) (defBody s__law_next) (defScope s__law_next) [] [] f fd) (hm : mg "_law_next" = some (.ref f)) :
    Has P w K mg base CX "_law_next" 1 ["_law_source", "_law_many"] [] (spM K 2 F__law_next) := by
  refine has_mk F hm sc__law_next (spM_len rfl) (fun _ _ _ _ _ _ us hl => match us, hl with | [_, _], _ => rfl) fun cdv A outer s H vs Q E hr h => ?_
  refine ⟨_, (pss_cons (ps_if (pt_cmpR op_gtU (pe_ix (ixk_seq (K := K) rfl) (pv 0) pe_int (fun _ _ => rfl)) pe_int (nomark _)) (pss_cons (ps_set (i := 2) sc__law_next.nd rfl (by first | exact .inl rfl | exact .inr rfl) (pe_op op_mod (pe_callTy call_intU (by rfl) bl.int bb_int (pa_cons (pe_ix (ixk_seq (K := K) rfl) (pv 0) pe_int (fun _ _ => rfl)) pa_nil)) (pv 1))) (pss_cons (ps_asg (pe_op op_fdivW (pe_ix (ixk_seq (K := K) rfl) (pv 0) pe_int (fun _ _ => rfl)) (pv 1)) (pg_sub (pv 0) pe_int set_list)) (pss_one (ps_ret (pv 2))))) pss_nil) (pss_cons (ps_asg (pe_op (ok_addU (K := K) rfl) (pe_ix (ixk_seq (K := K) rfl) (pv 0) pe_int (fun _ _ => rfl)) pe_int) (pg_sub (pv 0) pe_int set_list)) (pss_cons (ps_set (i := 3) sc__law_next.nd rfl (by first | exact .inl rfl | exact .inr rfl) pe_int) (pss_cons (ps_set (i := 4) sc__law_next.nd rfl (by first | exact .inl rfl | exact .inr rfl) (pe_op op_mod (pe_callTy call_intU (by rfl) bl.int bb_int (pa_cons (pe_op (ok_addU (K := K) rfl) (pe_op (ok_addU (K := K) rfl) (pe_ix (ixk_seq (K := K) rfl) (pv 0) pe_int (fun _ _ => rfl)) (pe_op (ok_mulU (K := K) rfl) pe_int (pe_ix (ixk_seq (K := K) rfl) (pv 0) pe_int (fun _ _ => rfl)))) pe_int) pa_nil)) (pv 3))) (pss_cons (ps_set (i := 4) sc__law_next.nd rfl (by first | exact .inl rfl | exact .inr rfl) (pe_op op_mod (pe_callTy call_intU (by rfl) bl.int bb_int (pa_cons (pe_op (ok_mulU (K := K) rfl) (pv 4) pe_int) pa_nil)) (pv 3))) (pss_cons (ps_set (i := 4) sc__law_next.nd rfl (by first | exact .inl rfl | exact .inr rfl) (pe_op op_mod (pe_callTy call_intU (by rfl) bl.int bb_int (pa_cons (pe_op (ok_mulU (K := K) rfl) (pv 4) (pe_op (ok_addU (K := K) rfl) (pe_op op_fdivW (pv 4) pe_int) pe_int)) pa_nil)) (pv 3))) (pss_cons (ps_set (i := 4) sc__law_next.nd rfl (by first | exact .inl rfl | exact .inr rfl) (pe_op op_mod (pe_callTy call_intU (by rfl) bl.int bb_int (pa_cons (pe_op (ok_mulU (K := K) rfl) (pv 4) (pe_op (ok_addU (K := K) rfl) (pe_op op_fdivW (pv 4) pe_int) pe_int)) pa_nil)) pe_int)) (pss_one (ps_ret (pe_op op_mod (pe_callTy call_intU (by rfl) bl.int bb_int (pa_cons (pe_op op_fdivW (pv 4) pe_int) pa_nil)) (pv 1))))))))))), body_M (n := 3) ?_ rfl h⟩
  exact (ss_seq (ss_if (st_test (se_gt (se_ixV se_int) se_int)) (ss_seq (ss_asg (se_mod (se_intC (sa_cons (se_ixV se_int) sa_nil)) se_var) sg_name) (ss_seq (ss_setIx (se_div (se_ixV se_int) se_var) se_int) (ss_ret se_var))) ss_next) (ss_seq (ss_setIx (se_add (se_ixV se_int) se_int) se_int) (ss_seq (ss_asg se_int sg_name) (ss_seq (ss_asg (se_mod (se_intC (sa_cons (se_add (se_add (se_ixV se_int) (se_mul se_int (se_ixV se_int))) se_int) sa_nil)) se_var) sg_name) (ss_seq (ss_asg (se_mod (se_intC (sa_cons (se_mul se_var se_int) sa_nil)) se_var) sg_name) (ss_seq (ss_asg (se_mod (se_intC (sa_cons (se_mul se_var (se_add (se_div se_var se_int) se_int)) sa_nil)) se_var) sg_name) (ss_seq (ss_asg (se_mod (se_intC (sa_cons (se_mul se_var (se_add (se_div se_var se_int) se_int)) sa_nil)) se_int) sg_name) (ss_ret (se_mod (se_intC (sa_cons (se_div se_var se_int) sa_nil)) se_var)))))))))
abbrev s__law_one : Stmt := topS 32
abbrev n__law_one : List Str := ["_law_source", "_law_some"]
theorem sc__law_one : FnScope n__law_one ["_law_source", "_law_some"] (defScope s__law_one) := ⟨rfl, rfl, rfl, by decide +kernel, rfl, by decide +kernel, by decide +kernel⟩
theorem H__law_one (bl : Bm mg) (nx : NoY CX) (G__law_next : Has P w K mg base CX "_law_next" 1 ["_law_source", "_law_many"] [] (spM K 2 F__law_next)) (F : FunD K "_law_one" "_law_one" (defArgs s__law_one) (defBody s__law_one) (defScope s__law_one) [] [] f fd) (hm : mg "_law_one" = some (.ref f)) :
    Has P w K mg base CX "_law_one" 2 ["_law_source", "_law_some"] [] (spM K 2 F__law_one) := by
  refine has_mk F hm sc__law_one (spM_len rfl) (fun _ _ _ _ _ _ us hl => match us, hl with | [_, _], _ => rfl) fun cdv A outer s H vs Q E hr h => ?_
  refine ⟨_, (pss_one (ps_ret (pe_ix (ixk_seq (K := K) rfl) (pv 1) (pe_has G__law_next (hr.mono (by first | decide | omega)) (by rfl) (pa_cons (pv 0) (pa_cons (pe_callB (ck_lenU (K := K) rfl) (by rfl) bl.len bb_len (pa_cons (pv 1) pa_nil)) pa_nil)) (nx _)) (fun _ _ => rfl)))), body_M (n := 0) ?_ rfl h⟩
  exact (ss_ret (se_ix se_var (se_callM (sa_cons (se_len (sa_cons se_var sa_nil)) sa_nil))))
abbrev s__law_rule : Stmt := topS 33
abbrev n__law_rule : List Str := ["_law_source", "_law_cap"]
theorem sc__law_rule : FnScope n__law_rule ["_law_source"] (defScope s__law_rule) := ⟨rfl, rfl, rfl, by decide +kernel, rfl, by decide +kernel, by decide +kernel⟩
theorem H__law_rule (bl : Bm mg) (nx : NoY CX) (G__law_one : Has P w K mg base CX "_law_one" 2 ["_law_source", "_law_some"] [] (spM K 2 F__law_one)) (F : FunD K "_law_rule" "_law_rule" (defArgs s__law_rule) (defBody s__law_rule) (defScope s__law_rule) [] [] f fd) (hm : mg "_law_rule" = some (.ref f)) :
    Has P w K mg base CX "_law_rule" 3 ["_law_source"] [] (spM K 1 F__law_rule) := by
  refine has_mk F hm sc__law_rule (spM_len rfl) (fun _ _ _ _ _ _ us hl => match us, hl with | [_], _ => rfl) fun cdv A outer s H vs Q E hr h => ?_
  refine ⟨_, (pss_cons (ps_set (i := 1) sc__law_rule.nd rfl (by first | exact .inl rfl | exact .inr rfl) (pe_has G__law_one (hr.mono (by first | decide | omega)) (by rfl) (pa_cons (pv 0) (pa_cons (pe_lst (pa_cons pe_int (pa_cons pe_int (pa_cons pe_int (pa_cons pe_int (pa_cons pe_int (pa_cons pe_int (pa_cons pe_int pa_nil)))))))) pa_nil)) (nx _))) (pss_one (ps_ret (pe_has G__law_one (hr.mono (by first | decide | omega)) (by rfl) (pa_cons (pv 0) (pa_cons (pe_lst (pa_cons (pe_tup (pa_cons pe_str pa_nil)) (pa_cons (pe_tup (pa_cons pe_str pa_nil)) (pa_cons (pe_tup (pa_cons pe_str (pa_cons (pv 1) pa_nil))) (pa_cons (pe_lst (pa_cons pe_str (pa_cons (pv 1) pa_nil))) (pa_cons (pe_tup (pa_cons pe_str (pa_cons (pv 1) pa_nil))) (pa_cons (pe_lst (pa_cons pe_str pa_nil)) (pa_cons (pe_lst (pa_cons pe_str (pa_cons (pv 1) pa_nil))) pa_nil)))))))) pa_nil)) (nx _))))), body_M (n := 1) ?_ rfl h⟩
  exact (ss_seq (ss_asg (se_callM (sa_cons (se_fz (sl_lst (sa_cons se_int (sa_cons se_int (sa_cons se_int (sa_cons se_int (sa_cons se_int (sa_cons se_int (sa_cons se_int sa_nil))))))))) sa_nil)) sg_name) (ss_ret (se_callM (sa_cons (se_fz (sl_lst (sa_cons (se_tup (sa_cons se_str sa_nil)) (sa_cons (se_tup (sa_cons se_str sa_nil)) (sa_cons (se_tup (sa_cons se_str (sa_cons se_var sa_nil))) (sa_cons (se_fz (sl_lst (sa_cons se_str (sa_cons se_var sa_nil)))) (sa_cons (se_tup (sa_cons se_str (sa_cons se_var sa_nil))) (sa_cons (se_fz (sl_lst (sa_cons se_str sa_nil))) (sa_cons (se_fz (sl_lst (sa_cons se_str (sa_cons se_var sa_nil)))) sa_nil))))))))) sa_nil))))
abbrev s__law_heights : Stmt := topS 36
abbrev n__law_heights : List Str := ["_law_source", "_law_rule_here", "_law_found", "_law_high", "_law_k", "_law_end_here", "_law_height"]
theorem sc__law_heights : FnScope n__law_heights ["_law_source", "_law_rule_here"] (defScope s__law_heights) := ⟨rfl, rfl, rfl, by decide +kernel, rfl, by decide +kernel, by decide +kernel⟩
theorem H__law_heights (bl : Bm mg) (nx : NoY CX) (G__law_next : Has P w K mg base CX "_law_next" 1 ["_law_source", "_law_many"] [] (spM K 2 F__law_next)) (G__law_end : Has P w K mg base CX "_law_end" 1 ["_law_rule_here", "_law_high"] [] (spF K 2 F__law_end)) (G__law_one : Has P w K mg base CX "_law_one" 2 ["_law_source", "_law_some"] [] (spM K 2 F__law_one)) (F : FunD K "_law_heights" "_law_heights" (defArgs s__law_heights) (defBody s__law_heights) (defScope s__law_heights) [] [] f fd) (hm : mg "_law_heights" = some (.ref f)) :
    Has P w K mg base CX "_law_heights" 3 ["_law_source", "_law_rule_here"] [] (spML K 2 F__law_heights) := by
  refine has_mk F hm sc__law_heights (spML_len rfl) (fun _ _ _ _ _ _ us hl => match us, hl with | [_, _], _ => rfl) fun cdv A outer s H vs Q E hr h => ?_
  refine ⟨_, (pss_cons (ps_par (i := 2) (j := 3) (by rfl) sc__law_heights.nd rfl rfl (by decide) rfl rfl (pa_cons (pe_lst pa_nil) (pa_cons pe_int pa_nil)) (by rfl)) (pss_cons (ps_for PassesOwn.never rfl (pi_range1 rfl bl.range (pa_cons (pe_has G__law_next (hr.mono (by first | decide | omega)) (by rfl) (pa_cons (pv 0) (pa_cons pe_int pa_nil)) (nx _)) pa_nil)) (pg_name (i := 4) sc__law_heights.nd rfl (by first | exact .inl rfl | exact .inr rfl)) (pss_cons (ps_set (i := 5) sc__law_heights.nd rfl (by first | exact .inl rfl | exact .inr rfl) (pe_has G__law_end (hr.mono (by first | decide | omega)) (by rfl) (pa_cons (pv 1) (pa_cons (pv 3) pa_nil)) (nx _))) (pss_cons (ps_set (i := 6) sc__law_heights.nd rfl (by first | exact .inl rfl | exact .inr rfl) (pe_op (ok_addU (K := K) rfl) pe_int (pe_has G__law_one (hr.mono (by first | decide | omega)) (by rfl) (pa_cons (pv 0) (pa_cons (pe_lst (pa_cons pe_int (pa_cons pe_int (pa_cons pe_int (pa_cons pe_int (pa_cons pe_int (pa_cons pe_int (pa_cons pe_int pa_nil)))))))) pa_nil)) (nx _)))) (pss_cons (ps_if (PW.pt (pw_and (pt_cmpR op_notN (pv 5) pe_non (nomark _)) (pw_and1 (pt_cmpR op_gtU (pe_has G__law_next (hr.mono (by first | decide | omega)) (by rfl) (pa_cons (pv 0) (pa_cons pe_int pa_nil)) (nx _)) pe_int (nomark _))))) (pss_one (ps_set (i := 6) sc__law_heights.nd rfl (by first | exact .inl rfl | exact .inr rfl) (pe_callB (call_min2U rfl) (by rfl) bl.min bb_min (pa_cons (pv 6) (pa_cons (pv 5) pa_nil))))) pss_nil) (pss_cons (ps_expr (pe_bm PySem.F.plainAttrs_list PySem.F.slot_list_append PySem.F.type_list_append mt_append (pv 2) (pa_cons (pv 6) pa_nil))) (pss_one (ps_set (i := 3) sc__law_heights.nd rfl (by first | exact .inl rfl | exact .inr rfl) (pe_callB (call_max2U rfl) (by rfl) bl.max bb_max (pa_cons (pv 3) (pa_cons (pv 6) pa_nil)))))))))) (pss_one (ps_ret (pv 2))))), body_ML (n := 5) ?_ rfl h⟩
  exact (ss_seq (ss_parX (sx_consL (sl_lst sa_nil) (sx_cons se_int sx_nil))) (ss_seq (ss_for (si_rg1 (sa_cons (se_callM (sa_cons se_int sa_nil)) sa_nil)) sg_name (ss_seq (ss_asg (se_call (fun _ => .nil) (sa_cons se_var (sa_cons se_var sa_nil))) sg_name) (ss_seq (ss_asg (se_add se_int (se_callM (sa_cons (se_fz (sl_lst (sa_cons se_int (sa_cons se_int (sa_cons se_int (sa_cons se_int (sa_cons se_int (sa_cons se_int (sa_cons se_int sa_nil))))))))) sa_nil))) sg_name) (ss_seq (ss_if (st_and (st_test (se_notN se_var se_non)) (st_test (se_gt (se_callM (sa_cons se_int sa_nil)) se_int))) (ss_asg (se_min2 (sa_cons se_var (sa_cons se_var sa_nil))) sg_name) ss_next) (ss_seq (ss_meth mf_app (sa_cons se_var sa_nil)) (ss_asg (se_max2 (sa_cons se_var (sa_cons se_var sa_nil))) sg_name)))))) ss_retO))
abbrev s__law_single_right : Stmt := topS 41
abbrev n__law_single_right : List Str := ["_law_source", "_law_rule_here", "_law_high", "_law_end_here", "_law_height", "_law_some", "_law_ahead", "_law_tail", "_law_k"]
theorem sc__law_single_right : FnScope n__law_single_right ["_law_source", "_law_rule_here"] (defScope s__law_single_right) := ⟨rfl, rfl, rfl, by decide +kernel, rfl, by decide +kernel, by decide +kernel⟩
theorem H__law_single_right (bl : Bm mg) (nx : NoY CX) (G__law_one : Has P w K mg base CX "_law_one" 2 ["_law_source", "_law_some"] [] (spM K 2 F__law_one)) (G__law_end : Has P w K mg base CX "_law_end" 1 ["_law_rule_here", "_law_high"] [] (spF K 2 F__law_end)) (G_most : Has P w K mg base CX "most" 4 ["rule", "top"] [] (spF K 2 F_most)) (G_coins_for : Has P w K mg base CX "coins_for" 5 ["height", "rule", "top"] [] (spF K 3 F_coins_for)) (G__law_coins : Has P w K mg base CX "_law_coins" 1 ["_law_height", "_law_end_here"] [] (spF K 2 F__law_coins)) (G__law_next : Has P w K mg base CX "_law_next" 1 ["_law_source", "_law_many"] [] (spM K 2 F__law_next)) (G_toss : Has P w K mg base CX "toss" 5 ["coins", "at", "rule", "top"] [] (spF K 4 F_toss)) (F : FunD K "_law_single_right" "_law_single_right" (defArgs s__law_single_right) (defBody s__law_single_right) (defScope s__law_single_right) [] [] f fd) (hm : mg "_law_single_right" = some (.ref f)) :
    Has P w K mg base CX "_law_single_right" 6 ["_law_source", "_law_rule_here"] [] (spM K 2 F__law_single_right) := by
  refine has_mk F hm sc__law_single_right (spM_len rfl) (fun _ _ _ _ _ _ us hl => match us, hl with | [_, _], _ => rfl) fun cdv A outer s H vs Q E hr h => ?_
  refine ⟨_, (pss_cons (ps_set (i := 2) sc__law_single_right.nd rfl (by first | exact .inl rfl | exact .inr rfl) (pe_has G__law_one (hr.mono (by first | decide | omega)) (by rfl) (pa_cons (pv 0) (pa_cons (pe_lst (pa_cons pe_int (pa_cons pe_int (pa_cons pe_int (pa_cons pe_int (pa_cons pe_int pa_nil)))))) pa_nil)) (nx _))) (pss_cons (ps_set (i := 3) sc__law_single_right.nd rfl (by first | exact .inl rfl | exact .inr rfl) (pe_has G__law_end (hr.mono (by first | decide | omega)) (by rfl) (pa_cons (pv 1) (pa_cons (pv 2) pa_nil)) (nx _))) (pss_cons (ps_if (pt_cmpR (ok_neD (K := K) rfl hr.units) (pe_has G_most (hr.mono (by first | decide | omega)) (by rfl) (pa_cons (pv 1) (pa_cons (pv 2) pa_nil)) (nx _)) (pv 3) (nomark _)) (pss_one (ps_ret pe_bl)) pss_nil) (pss_cons (ps_for PassesOwn.never rfl (pi_range2 rfl bl.range (pa_cons pe_int (pa_cons pe_int pa_nil))) (pg_name (i := 4) sc__law_single_right.nd rfl (by first | exact .inl rfl | exact .inr rfl)) (pss_cons (ps_set (i := 5) sc__law_single_right.nd rfl (by first | exact .inl rfl | exact .inr rfl) (pe_has G_coins_for (hr.mono (by first | decide | omega)) (by rfl) (pa_cons (pv 4) (pa_cons (pv 1) (pa_cons (pv 2) pa_nil))) (nx _))) (pss_cons (ps_if (pt_cmpR (ok_neD (K := K) rfl hr.units) (pv 5) (pe_has G__law_coins (hr.mono (by first | decide | omega)) (by rfl) (pa_cons (pv 4) (pa_cons (pv 3) pa_nil)) (nx _)) (nomark _)) (pss_one (ps_ret pe_bl)) pss_nil) (pss_one (ps_if (pt_cmpR op_notN (pv 5) pe_non (nomark _)) (pss_cons (ps_set (i := 6) sc__law_single_right.nd rfl (by first | exact .inl rfl | exact .inr rfl) (pe_callTy (ck_tupU (K := K) rfl) (by rfl) bl.tuple bb_tuple (pa_cons (pe_lc (own := [("_law_k", 8)]) (by rfl) sc__law_single_right.nd (pi_range1 rfl bl.range (pa_cons (pe_has G__law_next (hr.mono (by first | decide | omega)) (by rfl) (pa_cons (pv 0) (pa_cons pe_int pa_nil)) (nx _)) pa_nil)) (blkOk_by (own := [("_law_k", 8)]) (N := n__law_single_right) (sc := defScope s__law_single_right) (by decide +kernel)) (fun _ _ _ _ _ => (pg_name (i := 8) sc__law_single_right.nd rfl (Or.inl rfl) (Or.inr rfl))) (fun _ _ _ _ _ => pts_nil) (fun _ _ _ _ _ => (pe_has G__law_next (hr.mono (by first | decide | omega)) (by rfl) (pa_cons (pv 0) (pa_cons pe_int pa_nil)) (nx _)))) pa_nil))) (pss_cons (ps_setLc (i := 7) (own := [("_law_k", 8)]) (by rfl) sc__law_single_right.nd rfl rfl (sw_true rfl rfl rfl (by decide +kernel)) (pi_range1 rfl bl.range (pa_cons (pe_has G__law_next (hr.mono (by first | decide | omega)) (by rfl) (pa_cons (pv 0) (pa_cons pe_int pa_nil)) (nx _)) pa_nil)) (blkOk_by (own := [("_law_k", 8)]) (N := n__law_single_right) (sc := defScope s__law_single_right) (by decide +kernel)) (fun _ _ _ _ _ => (pg_name (i := 8) sc__law_single_right.nd rfl (Or.inl rfl) (Or.inr rfl))) (fun _ _ _ _ _ => pts_nil) (fun _ _ _ _ _ => (pe_has G__law_next (hr.mono (by first | decide | omega)) (by rfl) (pa_cons (pv 0) (pa_cons pe_int pa_nil)) (nx _)))) (pss_one (ps_if (pt_cmpR (ok_neD (K := K) rfl hr.units) (pe_has G_toss (hr.mono (by first | decide | omega)) (by rfl) (pa_cons (pe_op (ok_addU (K := K) rfl) (pe_callTy (ck_lstU (K := K) rfl) (by rfl) bl.list bb_list (pa_cons (pe_op (ok_addU (K := K) rfl) (pv 6) (pv 5)) pa_nil)) (pv 7)) (pa_cons (pe_callB (ck_lenU (K := K) rfl) (by rfl) bl.len bb_len (pa_cons (pv 6) pa_nil)) (pa_cons (pv 1) (pa_cons (pv 2) pa_nil)))) (nx _)) (pe_tup (pa_cons (pv 4) (pa_cons (pe_op (ok_addU (K := K) rfl) (pe_callB (ck_lenU (K := K) rfl) (by rfl) bl.len bb_len (pa_cons (pv 6) pa_nil)) (pe_callB (ck_lenU (K := K) rfl) (by rfl) bl.len bb_len (pa_cons (pv 5) pa_nil))) pa_nil))) (nomark _)) (pss_one (ps_ret pe_bl)) pss_nil)))) pss_nil))))) (pss_one (ps_ret pe_bl)))))), body_M (n := 7) ?_ rfl h⟩
  exact (ss_seq (ss_asg (se_callM (sa_cons (se_fz (sl_lst (sa_cons se_int (sa_cons se_int (sa_cons se_int (sa_cons se_int (sa_cons se_int sa_nil))))))) sa_nil)) sg_name) (ss_seq (ss_asg (se_call (fun _ => .nil) (sa_cons se_var (sa_cons se_var sa_nil))) sg_name) (ss_seq (ss_if (st_test (se_ne (se_call (fun _ => .nil) (sa_cons se_var (sa_cons se_var sa_nil))) se_var)) (ss_ret se_bl) ss_next) (ss_seq (ss_for (si_rg2 (sa_cons se_int (sa_cons se_int sa_nil))) sg_name (ss_seq (ss_asg (se_call (fun _ => .nil) (sa_cons se_var (sa_cons se_var (sa_cons se_var sa_nil)))) sg_name) (ss_seq (ss_if (st_test (se_ne se_var (se_call (fun _ => .nil) (sa_cons se_var (sa_cons se_var sa_nil))))) (ss_ret se_bl) ss_next) (ss_if (st_test (se_notN se_var se_non)) (ss_seq (ss_asg (se_tupC (sa_cons (se_fz (sl_lc (si_rg1 (sa_cons (se_callM (sa_cons se_int sa_nil)) sa_nil)) sg_name st_yes (se_callM (sa_cons se_int sa_nil)) (by decide))) sa_nil)) sg_name) (ss_seq (ss_asg (se_fz (sl_lc (si_rg1 (sa_cons (se_callM (sa_cons se_int sa_nil)) sa_nil)) sg_name st_yes (se_callM (sa_cons se_int sa_nil)) (by decide))) sg_name) (ss_if (st_test (se_ne (se_call (fun _ => .nil) (sa_cons (se_add (se_fz (sl_lstC (sa_cons (se_add se_var se_var) sa_nil))) se_var) (sa_cons (se_len (sa_cons se_var sa_nil)) (sa_cons se_var (sa_cons se_var sa_nil))))) (se_tup (sa_cons se_var (sa_cons (se_add (se_len (sa_cons se_var sa_nil)) (se_len (sa_cons se_var sa_nil))) sa_nil))))) (ss_ret se_bl) ss_next))) ss_next)))) (ss_ret se_bl)))))
abbrev s_law : Stmt := topS 42
abbrev n_law : List Str := ["_law_script", "_law_cell", "_law_source", "_law_turn", "_law_rule_here", "_law_row_so", "_law_due_here", "_law_coins_here", "_law_came", "_law_many", "_law_k"]
theorem sc_law : FnScope n_law ["_law_script"] (defScope s_law) := ⟨rfl, rfl, rfl, by decide +kernel, rfl, by decide +kernel, by decide +kernel⟩
theorem H_law (ht : ∀ ns : List Int, ns.length ≤ 63 → F_law [.list (ns.map .int)] = some (.bool true)) (bl : Bm mg) (nx : NoY CX) (G__law_source_of : Has P w K mg base CX "_law_source_of" 1 ["_law_cell"] [] (spL K 1 F__law_source_of)) (G__law_rule : Has P w K mg base CX "_law_rule" 3 ["_law_source"] [] (spM K 1 F__law_rule)) (G__law_heights : Has P w K mg base CX "_law_heights" 3 ["_law_source", "_law_rule_here"] [] (spML K 2 F__law_heights)) (G__law_due : Has P w K mg base CX "_law_due" 2 ["_law_row_so", "_law_rule_here"] [] (spF K 2 F__law_due)) (G_coins_of : Has P w K mg base CX "coins_of" 5 ["heights", "rule"] [] (spF K 2 F_coins_of)) (G_heights_of : Has P w K mg base CX "heights_of" 5 ["coins", "rule"] [] (spF K 2 F_heights_of)) (G__law_bare : Has P w K mg base CX "_law_bare" 3 ["_law_row_so", "_law_rule_here"] [] (spF K 2 F__law_bare)) (G__law_next : Has P w K mg base CX "_law_next" 1 ["_law_source", "_law_many"] [] (spM K 2 F__law_next)) (G__law_one : Has P w K mg base CX "_law_one" 2 ["_law_source", "_law_some"] [] (spM K 2 F__law_one)) (G__law_said : Has P w K mg base CX "_law_said" 7 ["_law_coins_here", "_law_rule_here"] [] (spF K 2 F__law_said)) (G__law_read : Has P w K mg base CX "_law_read" 2 ["_law_coins_here", "_law_rule_here"] [] (spF K 2 F__law_read)) (G__law_single_right : Has P w K mg base CX "_law_single_right" 6 ["_law_source", "_law_rule_here"] [] (spM K 2 F__law_single_right)) (F : FunD K "law" "law" (defArgs s_law) (defBody s_law) (defScope s_law) [] [] f fd) :
    FnOk P w K mg base CX 8 f fd ["_law_script"] (spLaw K) := by
  refine F.ok sc_law (fun vs H Q E h => by obtain ⟨a, ns, rfl, _⟩ := h; rfl) fun cdv A outer s H vs Q E hr h => ?_
  suffices z : ∃ t, PSs (cxOf CX P w K mg base n_law "law" (defScope s_law) f cdv A outer s H E).nox (defBody s_law) t ∧ t { nx := fun _ H' => Q .non H', rt := Q } (L2.start n_law vs) H by
    obtain ⟨t, h1, h2⟩ := z
    exact ⟨t, h1.nox, h2⟩
  refine ⟨_, (pss_cons (ps_for PassesOwn.never rfl (pik_row (K := K) rfl (pe_op (ok_addU (K := K) rfl) (pe_slice (slk_sliceU (K := K) rfl) (pv 0) po_none (po_some pe_int)) (pe_lst (pa_cons pe_int pa_nil)))) (pg_name (i := 1) sc_law.nd rfl (by first | exact .inl rfl | exact .inr rfl)) (pss_cons (ps_set (i := 2) sc_law.nd rfl (by first | exact .inl rfl | exact .inr rfl) (pe_has G__law_source_of (hr.mono (by first | decide | omega)) (by rfl) (pa_cons (pv 1) pa_nil) (nx _))) (pss_one (ps_for PassesOwn.never rfl (pi_range1 rfl bl.range (pa_cons pe_int pa_nil)) (pg_name (i := 3) sc_law.nd rfl (by first | exact .inl rfl | exact .inr rfl)) (pss_cons (ps_set (i := 4) sc_law.nd rfl (by first | exact .inl rfl | exact .inr rfl) (pe_has G__law_rule (hr.mono (by first | decide | omega)) (by rfl) (pa_cons (pv 2) pa_nil) (nx _))) (pss_cons (ps_set (i := 5) sc_law.nd rfl (by first | exact .inl rfl | exact .inr rfl) (pe_has G__law_heights (hr.mono (by first | decide | omega)) (by rfl) (pa_cons (pv 2) (pa_cons (pv 4) pa_nil)) (nx _))) (pss_cons (ps_set (i := 6) sc_law.nd rfl (by first | exact .inl rfl | exact .inr rfl) (pe_has G__law_due (hr.mono (by first | decide | omega)) (by rfl) (pa_cons (pv 5) (pa_cons (pv 4) pa_nil)) (nx _))) (pss_cons (ps_if (PW.pt (pw_or (pt_cmpR (ok_neD (K := K) rfl hr.units) (pe_has G_coins_of (hr.mono (by first | decide | omega)) (by rfl) (pa_cons (pv 5) (pa_cons (pv 4) pa_nil)) (nx _)) (pv 6) (nomark _)) (pw_or1 (pt_cmpR (ok_neD (K := K) rfl hr.units) (pe_has G_coins_of (hr.mono (by first | decide | omega)) (by rfl) (pa_cons (pe_callTy (ck_tupU (K := K) rfl) (by rfl) bl.tuple bb_tuple (pa_cons (pv 5) pa_nil)) (pa_cons (pv 4) pa_nil)) (nx _)) (pv 6) (nomark _))))) (pss_one (ps_ret pe_bl)) pss_nil) (pss_cons (ps_if (PW.pt (pw_and (pt_cmpR op_notN (pv 6) pe_non (nomark _)) (pw_and1 (pt_cmpR (ok_neD (K := K) rfl hr.units) (pe_has G_heights_of (hr.mono (by first | decide | omega)) (by rfl) (pa_cons (pv 6) (pa_cons (pv 4) pa_nil)) (nx _)) (pe_has G__law_bare (hr.mono (by first | decide | omega)) (by rfl) (pa_cons (pv 5) (pa_cons (pv 4) pa_nil)) (nx _)) (nomark _))))) (pss_one (ps_ret pe_bl)) pss_nil) (pss_cons (ps_setLc (i := 7) (own := [("_law_k", 10)]) (by rfl) sc_law.nd rfl rfl (sw_true rfl rfl rfl (by decide +kernel)) (pi_range1 rfl bl.range (pa_cons (pe_has G__law_next (hr.mono (by first | decide | omega)) (by rfl) (pa_cons (pv 2) (pa_cons pe_int pa_nil)) (nx _)) pa_nil)) (blkOk_by (own := [("_law_k", 10)]) (N := n_law) (sc := defScope s_law) (by decide +kernel)) (fun _ _ _ _ _ => (pg_name (i := 10) sc_law.nd rfl (Or.inl rfl) (Or.inr rfl))) (fun _ _ _ _ _ => pts_nil) (fun _ _ _ _ _ => (pe_has G__law_one (hr.mono (by first | decide | omega)) (by rfl) (pa_cons (pv 2) (pa_cons (pe_lst (pa_cons pe_int (pa_cons pe_int (pa_cons (pe_has G__law_next (hr.mono (by first | decide | omega)) (by rfl) (pa_cons (pv 2) (pa_cons pe_int pa_nil)) (nx _)) pa_nil)))) pa_nil)) (nx _)))) (pss_cons (ps_set (i := 8) sc_law.nd rfl (by first | exact .inl rfl | exact .inr rfl) (pe_has G__law_said (hr.mono (by first | decide | omega)) (by rfl) (pa_cons (pv 7) (pa_cons (pv 4) pa_nil)) (nx _))) (pss_cons (ps_if (pt_cmpR (ok_neD (K := K) rfl hr.units) (pv 8) (pe_has G__law_read (hr.mono (by first | decide | omega)) (by rfl) (pa_cons (pv 7) (pa_cons (pv 4) pa_nil)) (nx _)) (nomark _)) (pss_one (ps_ret pe_bl)) pss_nil) (pss_cons (ps_if (PW.pt (pw_and (ptk_truU (K := K) rfl (pe_callB (ck_isi (K := K) rfl) (by rfl) bl.isinstance bb_isinstance (pa_cons (pv 8) (pa_cons (pe_bltn (v := .ty "list") (by rfl) bl.list bb_list rfl) pa_nil)))) (pw_and1 (pt_cmpR (ok_neD (K := K) rfl hr.units) (pe_has G_coins_of (hr.mono (by first | decide | omega)) (by rfl) (pa_cons (pv 8) (pa_cons (pv 4) pa_nil)) (nx _)) (pe_callTy (ck_tupU (K := K) rfl) (by rfl) bl.tuple bb_tuple (pa_cons (pv 7) pa_nil)) (nomark _))))) (pss_one (ps_ret pe_bl)) pss_nil) (pss_one (ps_if (pt_not (ptk_truU (K := K) rfl (pe_has G__law_single_right (hr.mono (by first | decide | omega)) (by rfl) (pa_cons (pv 2) (pa_cons (pv 4) pa_nil)) (nx _)))) (pss_one (ps_ret pe_bl)) pss_nil))))))))))))))) (pss_cons (ps_set (i := 9) sc_law.nd rfl (by first | exact .inl rfl | exact .inr rfl) (pe_op op_sub pe_int (pe_has G__law_next (hr.mono (by first | decide | omega)) (by rfl) (pa_cons (pe_has G__law_source_of (hr.mono (by first | decide | omega)) (by rfl) (pa_cons (pe_ifExp (pt_cmpR (ok_neD (K := K) rfl hr.units) (pv 0) (pe_lst pa_nil) (nomark _)) (pe_ix (ixk_seq (K := K) rfl) (pv 0) pe_int (fun _ _ => rfl)) pe_int) pa_nil) (nx _)) (pa_cons pe_int pa_nil)) (nx _)))) (pss_cons (ps_if (PW.pt (pw_or (pt_cmpR (ok_neD (K := K) rfl hr.units) (pe_has G_heights_of (hr.mono (by first | decide | omega)) (by rfl) (pa_cons (pe_op (ok_mulU (K := K) rfl) (pe_tup (pa_cons pe_int pa_nil)) (pv 9)) (pa_cons (pe_lst (pa_cons pe_str pa_nil)) pa_nil)) (nx _)) (pe_op op_rep (pe_lst (pa_cons pe_int pa_nil)) (pv 9)) (nomark _)) (pw_or1 (pt_cmpR (ok_neD (K := K) rfl hr.units) (pe_has G_coins_of (hr.mono (by first | decide | omega)) (by rfl) (pa_cons (pe_op op_rep (pe_lst (pa_cons pe_int pa_nil)) (pv 9)) (pa_cons (pe_tup (pa_cons pe_str (pa_cons pe_int pa_nil))) pa_nil)) (nx _)) (pe_op (ok_mulU (K := K) rfl) (pe_tup (pa_cons pe_int pa_nil)) (pv 9)) (nomark _))))) (pss_one (ps_ret pe_bl)) pss_nil) (pss_one (ps_ret (pe_and (pe_cmpR (ok_eqD (K := K) rfl hr.units) (pe_has G_coins_of (hr.mono (by first | decide | omega)) (by rfl) (pa_cons (pe_tup pa_nil) (pa_cons (pe_tup (pa_cons pe_str pa_nil)) pa_nil)) (nx _)) (pe_tup pa_nil) (nomark _)) (pe_one (pe_cmpR (ok_eqD (K := K) rfl hr.units) (pe_has G_heights_of (hr.mono (by first | decide | omega)) (by rfl) (pa_cons (pe_lst pa_nil) (pa_cons (pe_tup (pa_cons pe_str (pa_cons pe_int pa_nil))) pa_nil)) (nx _)) (pe_lst pa_nil) (nomark _))))))))), body_law (E := E) ?_ rfl ht h⟩
  exact (ss_seq (ss_for (si_row (se_add (se_sl se_var so_none (so_some se_int)) (se_fz (sl_lst (sa_cons se_int sa_nil))))) sg_name (ss_seq (ss_asgO (sl_call (fun _ => .nil) (sa_cons se_var sa_nil))) (ss_for (si_rg1 (sa_cons se_int sa_nil)) sg_name (ss_seq (ss_asg (se_callM sa_nil) sg_name) (ss_seq (ss_asg (se_fz (sl_callM (sa_cons se_var sa_nil))) sg_name) (ss_seq (ss_asg (se_call (fun _ => .nil) (sa_cons se_var (sa_cons se_var sa_nil))) sg_name) (ss_seq (ss_if (st_or (st_test (se_ne (se_call (fun _ => .nil) (sa_cons se_var (sa_cons se_var sa_nil))) se_var)) (st_test (se_ne (se_call (fun _ => .nil) (sa_cons (se_tupC (sa_cons se_var sa_nil)) (sa_cons se_var sa_nil))) se_var))) (ss_ret se_bl) ss_next) (ss_seq (ss_if (st_and (st_test (se_notN se_var se_non)) (st_test (se_ne (se_call (fun _ => .nil) (sa_cons se_var (sa_cons se_var sa_nil))) (se_call (fun _ => .nil) (sa_cons se_var (sa_cons se_var sa_nil)))))) (ss_ret se_bl) ss_next) (ss_seq (ss_asg (se_fz (sl_lc (si_rg1 (sa_cons (se_callM (sa_cons se_int sa_nil)) sa_nil)) sg_name st_yes (se_callM (sa_cons (se_fz (sl_lst (sa_cons se_int (sa_cons se_int (sa_cons (se_callM (sa_cons se_int sa_nil)) sa_nil))))) sa_nil)) (by decide))) sg_name) (ss_seq (ss_asg (se_call (fun _ => .nil) (sa_cons se_var (sa_cons se_var sa_nil))) sg_name) (ss_seq (ss_if (st_test (se_ne se_var (se_call (fun _ => .nil) (sa_cons se_var (sa_cons se_var sa_nil))))) (ss_ret se_bl) ss_next) (ss_seq (ss_if (st_and (st_truU (se_isi se_var)) (st_test (se_ne (se_call (fun _ => .nil) (sa_cons se_var (sa_cons se_var sa_nil))) (se_tupC (sa_cons se_var sa_nil))))) (ss_ret se_bl) ss_next) (ss_if (st_not (st_truU (se_callM (sa_cons se_var sa_nil)))) (ss_ret se_bl) ss_next))))))))))))) (ss_seq (ss_asg (se_sub se_int (se_callN (sl_call (fun _ => .nil) (sa_cons (se_if (st_test (se_ne se_var (se_fz (sl_lst sa_nil)))) (se_ix se_var se_int) se_int) sa_nil)) (sa_cons se_int sa_nil))) sg_name) (ss_seq (ss_if (st_or (st_test (se_ne (se_call (fun _ => .nil) (sa_cons (se_mul (se_tup (sa_cons se_int sa_nil)) se_var) (sa_cons (se_fz (sl_lst (sa_cons se_str sa_nil))) sa_nil))) (se_fz (sl_rep (sl_lst (sa_cons se_int sa_nil)) se_var)))) (st_test (se_ne (se_call (fun _ => .nil) (sa_cons (se_fz (sl_rep (sl_lst (sa_cons se_int sa_nil)) se_var)) (sa_cons (se_tup (sa_cons se_str (sa_cons se_int sa_nil))) sa_nil))) (se_mul (se_tup (sa_cons se_int sa_nil)) se_var)))) (ss_ret se_bl) ss_next) (ss_ret (se_and (se_eq (se_call (fun _ => .nil) (sa_cons (se_tup sa_nil) (sa_cons (se_tup (sa_cons se_str sa_nil)) sa_nil))) (se_tup sa_nil)) (se_eq (se_call (fun _ => .nil) (sa_cons (se_fz (sl_lst sa_nil)) (sa_cons (se_tup (sa_cons se_str (sa_cons se_int sa_nil))) sa_nil))) (se_fz (sl_lst sa_nil))))))))
end
end Tk
end

section
set_option Elab.async false
set_option linter.all false
set_option maxRecDepth 100000
set_option maxHeartbeats 1000000
/-! k04: the relations, as functions. -/
namespace Tk
open PySem PySem.Spec PyProof.Rows L2 Evl Tb Fd
theorem rows_inj {b b' : Bool} {xs ys : List PyData} (h : rows b xs = rows b' ys) : xs = ys := by
  cases b <;> cases b' <;> cases h <;> rfl
theorem ints_inj : ∀ {xs ys : List Int}, xs.map PyData.int = ys.map .int → xs = ys
  | [], [], _ => rfl
  | [], _ :: _, h => by cases h
  | _ :: _, [], h => by cases h
  | x :: xs, y :: ys, h => by
    injection h with h1 h2
    injection h1 with h1
    rw [h1, ints_inj h2]
theorem wn1 : ("free" : Str) ≠ "step" := by decide +kernel
theorem wn2 : ("cap" : Str) ≠ "step" := by decide +kernel
theorem ru_inj {b b' : Bool} {r r' : Ru} (h : ruD b r = ruD b' r') : r = r' := by
  have h2 := rows_inj h
  cases r <;> cases r' <;> simp only [ruL, List.cons.injEq, PyData.str.injEq, PyData.int.injEq, and_true, reduceCtorEq, and_false] at h2
  · rfl
  · exact absurd h2 wn1
  · exact absurd h2.symm wn1
  · rfl
  · rw [h2.2]
  · exact absurd h2.1 wn2
  · exact absurd h2.1.symm wn2
  · rw [h2.2]
theorem opt_inj {o o' : Option Int} (h : optD o = optD o') : o = o' := by
  cases o <;> cases o' <;> cases h <;> rfl
theorem l2_inj {a b c d : PyData} (h : [a, b] = [c, d]) : a = c ∧ b = d := by
  injection h with h1 h2
  injection h2 with h2 _
  exact ⟨h1, h2⟩
theorem l3_inj {a b c d e f : PyData} (h : [a, b, c] = [d, e, f]) : a = d ∧ b = e ∧ c = f := by
  injection h with h1 h2
  exact ⟨h1, l2_inj h2⟩
theorem l4_inj {a b c d e f g i : PyData} (h : [a, b, c, d] = [e, f, g, i]) : a = e ∧ b = f ∧ c = g ∧ d = i := by
  injection h with h1 h2
  exact ⟨h1, l3_inj h2⟩
theorem int_inj {i j : Int} (h : PyData.int i = .int j) : i = j := by
  injection h
section
variable {b b2 : Bool} {r : Ru} {t h : Int} {ns cs : List Int} {g : Option Int}
theorem f_end : F__law_end [ruD b r, .int t] = some (optD (limR r t)) := FR_is ⟨b, r, t, rfl, rfl⟩ fun y hy => by
  obtain ⟨b', r', t', e, rfl⟩ := hy
  obtain ⟨e1, e2⟩ := l2_inj e
  rw [ru_inj e1, int_inj e2]
theorem f_most (ok : okR r) (h0 : 0 ≤ t) : F_most [ruD b r, .int t] = some (optD (limR r t)) := FR_is ⟨b, r, t, rfl, ok, h0, rfl⟩ fun y hy => by
  obtain ⟨b', r', t', e, _, _, rfl⟩ := hy
  obtain ⟨e1, e2⟩ := l2_inj e
  rw [ru_inj e1, int_inj e2]
theorem f_coins (h1 : 1 ≤ h) (h2 : h ≤ 1000) : F__law_coins [.int h, optD g] = some (optT (cwL h g)) := FR_is ⟨h, g, rfl, h1, h2, rfl⟩ fun y hy => by
  obtain ⟨h', g', e, _, _, rfl⟩ := hy
  obtain ⟨e1, e2⟩ := l2_inj e
  rw [int_inj e1, opt_inj e2]
theorem f_for (h1 : 1 ≤ h) (h2 : h ≤ 1000) (ok : okR r) (h0 : 0 ≤ t) : F_coins_for [.int h, ruD b r, .int t] = some (optT (cwL h (limR r t))) := FR_is ⟨h, b, r, t, rfl, h1, h2, ok, h0, rfl⟩ fun y hy => by
  obtain ⟨h', b', r', t', e, _, _, _, _, rfl⟩ := hy
  obtain ⟨e1, e2, e3⟩ := l3_inj e
  rw [int_inj e1, ru_inj e2, int_inj e3]
theorem f_due (hc : ∀ c ∈ ns, 1 ≤ c ∧ c ≤ 100) (hl : ns.length ≤ 900) : F__law_due [rows b (ns.map .int), ruD b2 r] = some (optT (dueF r 0 ns)) := FR_is ⟨b, ns, b2, r, rfl, hc, hl, rfl⟩ fun y hy => by
  obtain ⟨b', ns', b2', r', e, _, _, rfl⟩ := hy
  obtain ⟨e1, e2⟩ := l2_inj e
  rw [ints_inj (rows_inj e1), ru_inj e2]
theorem f_of (hc : ∀ c ∈ ns, 1 ≤ c ∧ c ≤ 100) (ok : okR r) (hl : ns.length ≤ 1000) : F_coins_of [rows b (ns.map .int), ruD b2 r] = some (optT (dueF r 0 ns)) := FR_is ⟨b, ns, b2, r, rfl, hc, ok, hl, rfl⟩ fun y hy => by
  obtain ⟨b', ns', b2', r', e, _, _, _, rfl⟩ := hy
  obtain ⟨e1, e2⟩ := l2_inj e
  rw [ints_inj (rows_inj e1), ru_inj e2]
theorem f_bare (hc : ∀ c ∈ ns, 1 ≤ c ∧ c ≤ 100) (hl : ns.length ≤ 900) : F__law_bare [rows b (ns.map .int), ruD b2 r] = some (.list ((bareF r ns.length ns).map .int)) := FR_is ⟨b, ns, b2, r, rfl, hc, hl, rfl⟩ fun y hy => by
  obtain ⟨b', ns', b2', r', e, _, _, rfl⟩ := hy
  obtain ⟨e1, e2⟩ := l2_inj e
  rw [ints_inj (rows_inj e1), ru_inj e2]
theorem f_read (hc : ∀ c ∈ cs, c = 0 ∨ c = 1) (ok : okR r) (hl : cs.length ≤ 20000) : F__law_read [rows b (cs.map .int), ruD b2 r] = some (outD r cs) := FR_is ⟨b, cs, b2, r, rfl, hc, ok, hl, rfl⟩ fun y hy => by
  obtain ⟨b', ns', b2', r', e, _, _, _, rfl⟩ := hy
  obtain ⟨e1, e2⟩ := l2_inj e
  rw [ints_inj (rows_inj e1), ru_inj e2]
theorem f_said (hc : ∀ c ∈ cs, c = 0 ∨ c = 1) (ok : okR r) (hl : cs.length ≤ 20000) : F__law_said [rows b (cs.map .int), ruD b2 r] = some (outD r cs) := FR_is ⟨b, cs, b2, r, rfl, hc, ok, hl, rfl⟩ fun y hy => by
  obtain ⟨b', ns', b2', r', e, _, _, _, rfl⟩ := hy
  obtain ⟨e1, e2⟩ := l2_inj e
  rw [ints_inj (rows_inj e1), ru_inj e2]
theorem f_hof {l : List Int} (hc : ∀ c ∈ cs, c = 0 ∨ c = 1) (ok : okR r) (hl : cs.length ≤ 20000) (nb : ¬ badR r cs) (hr : rdF r (2 * cs.length + 1) 0 cs = some l) : F_heights_of [rows b (cs.map .int), ruD b2 r] = some (.list (l.map .int)) := FR_is ⟨b, b2, cs, l, r, rfl, hc, ok, hl, nb, hr, rfl⟩ fun y hy => by
  obtain ⟨b', b2', ns', l', r', e, _, _, _, _, hr', rfl⟩ := hy
  obtain ⟨e1, e2⟩ := l2_inj e
  have e3 := ints_inj (rows_inj e1)
  have e4 := ru_inj e2
  subst e3 e4
  rw [hr] at hr'
  cases hr'
  rfl
end
end Tk
end

section
set_option Elab.async false
set_option linter.all false
set_option maxRecDepth 100000
set_option maxHeartbeats 1000000
/-! k04: the source, rules, heights -/
namespace Tk
open PySem PySem.Spec PyProof.Rows L2 Evl Tb Fd
theorem divD_pos {i j : Int} (h : 0 < j) (h2 : j.natAbs < 2 ^ 70) : divD (.int i) (.int j) = some (.int (i / j)) := if_pos (wide_div h h2 (by decide) (by decide))
theorem mulD_left {i j : Int} (h1 : -(2 ^ 64) < i) (h2 : i < 2 ^ 64) : mulD (.int i) (.int j) = some (.int (i * j)) := if_pos (.inl (.inl ⟨h1, h2⟩))
theorem mulD_right {i j : Int} (h1 : -(2 ^ 64) < j) (h2 : j < 2 ^ 64) : mulD (.int i) (.int j) = some (.int (i * j)) := if_pos (.inl (.inr ⟨h1, h2⟩))
theorem modD_pos {i j : Int} (h : 0 < j) : modD (.int i) (.int j) = some (.int (i % j)) := if_pos h
theorem powD_ok {i j : Int} (h : CPow i j) : powD (.int i) (.int j) = some (.int (i ^ j.toNat)) := if_pos h
theorem intD_int (i : Int) : intD [.int i] = some (.int i) := rfl
theorem intD_bool (b : Bool) : intD [.bool b] = some (.int (if b then 1 else 0)) := rfl
def srcT (t : Int × Int × Int) : List PyData := [.int t.1, .int t.2.1, .int t.2.2]
theorem min2 (i j : Int) : min2D [.int i, .int j] = some (.int (min i j)) := rfl
theorem max2 (i j : Int) : max2D [.int i, .int j] = some (.int (max i j)) := rfl
theorem e_source (n : Int) : ∃ a b c : Int, F__law_source_of [.int n] = some [.int a, .int b, .int c] := by
  have key : ∀ k : Int, ∃ a b c : Int, sRetL (dLst (dCons (dOp mulD (dVar 0) (dCb intD (dCons (dOp geD (dVar 0) (dOp powD (dK (.int 10)) (dK (.int 18)))) (dK [])))) (dCons (dOp modD (dCb intD (dCons (dVar 0) (dK []))) (dK (.int 2147483647))) (dCons (dK (.int 0)) (dK []))))) [.d (.int k)] = some (.rl [.int a, .int b, .int c] [.d (.int k)]) := fun k => by
    have hp : powD (.int 10) (.int 18) = some (.int ((10 : Int) ^ (18 : Int).toNat)) := powD_ok ⟨by decide, by decide, by decide⟩
    have hm : ∀ b : Bool, mulD (.int k) (.int (if b then 1 else 0)) = some (.int (k * if b then 1 else 0)) := fun b => mulD_right (by cases b <;> decide) (by cases b <;> decide)
    have hd : modD (.int k) (.int 2147483647) = some (.int (k % 2147483647)) := modD_pos (by decide)
    refine ⟨k * (if decide ((10 : Int) ^ (18 : Int).toNat ≤ k) = true then 1 else 0), k % 2147483647, 0, ?_⟩
    simp only [sRetL_e, dLst_e, dBind_e, dCons_e, dOp_e, dVar_e, dK_e, dLift_e, List.getElem?_cons_zero, hp, geD_int, intD_bool, intD_int, hm, hd, small, List.length_cons, List.length_nil, Option.map_some]
    rfl
  obtain ⟨a, b, c, h⟩ := key (if 0 ≤ n then n else 0 - 3 * n - 1)
  refine ⟨a, b, c, ?_⟩
  have hm : mulD (.int 3) (.int n) = some (.int (3 * n)) := mulD_left (by decide) (by decide)
  have h1 : sAsg (dIf (dTest (dOp geD (dVar 0) (dK (.int 0)))) (dVar 0) (dOp subD (dOp subD (dK (.int 0)) (dOp mulD (dK (.int 3)) (dVar 0))) (dK (.int 1)))) (dName 0) [.d (.int n)] = some (.nx [.d (.int (if 0 ≤ n then n else 0 - 3 * n - 1))]) := by
    by_cases c : 0 ≤ n
    · simp [c, setD, canSet]
    · simp [c, hm, setD, canSet]
  show fnL 0 m__law_source_of [.int n] = _
  unfold fnL m__law_source_of
  rw [show init [.int n] 0 = [.d (.int n)] from rfl, sSeq_e, h1]
  simp only [h]
theorem e_next (a b c : Int) {m : Int} (h0 : 0 < m) (h1 : m ≤ 10 ^ 20) : ∃ r a' b' c' : Int, F__law_next [.int a, .int b, .int c] [.int m] = some (.int r, [.int a', .int b', .int c']) ∧ 0 ≤ r ∧ r < m := by
  have m70 : m.natAbs < 2 ^ 70 := by
    have : (10 : Int) ^ 20 < 2 ^ 70 := by decide
    omega
  have i0 : ∀ x : Int, ixN 3 0 = some 0 := fun _ => rfl
  have k0 : ∀ x y z : PyData, atI [x, y, z] 0 = some x := fun _ _ _ => at_0 ..
  have k1 : ∀ x y z : PyData, atI [x, y, z] 1 = some y := fun _ _ _ => at_1 ..
  have k2 : ∀ x y z : PyData, atI [x, y, z] 2 = some z := fun _ _ _ => at_2 ..
  have s0 : ixN 3 0 = some 0 := rfl
  have s2 : ixN 3 2 = some 2 := rfl
  by_cases ca : 0 < a
  · refine ⟨a % m, a / m, b, c, ?_, (mod_in h0).1, (mod_in h0).2⟩
    simp [F__law_next, fnM, m__law_next, init, dIxV, ownL, k0, ca, intD_int, modD_pos h0, divD_pos h0 m70, setD, canSet, sSetIx, s0, putL]
  · have p0 : (0 : Int) < 2147483647 := by decide
    have p1 : (0 : Int) < 2147483399 := by decide
    have b4 := mod_in (x := b + 104729 * (c + 1) + 7919) p0
    have h4 : mulD (.int 104729) (.int (c + 1)) = some (.int (104729 * (c + 1))) := mulD_left (by decide) (by decide)
    have hm4 : modD (.int (b + 104729 * (c + 1) + 7919)) (.int 2147483647) = some (.int ((b + 104729 * (c + 1) + 7919) % 2147483647)) := modD_pos p0
    generalize (b + 104729 * (c + 1) + 7919) % 2147483647 = n4 at b4 hm4
    have h5 : mulD (.int n4) (.int 48271) = some (.int (n4 * 48271)) := mulD_right (by decide) (by decide)
    have b5 := mod_in (x := n4 * 48271) p0
    have hm5 : modD (.int (n4 * 48271)) (.int 2147483647) = some (.int (n4 * 48271 % 2147483647)) := modD_pos p0
    generalize n4 * 48271 % 2147483647 = n5 at b5 hm5
    have bg : (2147483647 : Int) < 2 ^ 64 := by decide
    have h6 : mulD (.int n5) (.int (n5 / 1009 + 69621)) = some (.int (n5 * (n5 / 1009 + 69621))) := mulD_left (by omega) (by omega)
    have d6 : divD (.int n5) (.int 1009) = some (.int (n5 / 1009)) := divD_pos (by decide) (by decide)
    have b6 := mod_in (x := n5 * (n5 / 1009 + 69621)) p0
    have hm6 : modD (.int (n5 * (n5 / 1009 + 69621))) (.int 2147483647) = some (.int (n5 * (n5 / 1009 + 69621) % 2147483647)) := modD_pos p0
    generalize n5 * (n5 / 1009 + 69621) % 2147483647 = n6 at b6 hm6
    have h7 : mulD (.int n6) (.int (n6 / 2003 + 40692)) = some (.int (n6 * (n6 / 2003 + 40692))) := mulD_left (by omega) (by omega)
    have d7 : divD (.int n6) (.int 2003) = some (.int (n6 / 2003)) := divD_pos (by decide) (by decide)
    have hm7 : modD (.int (n6 * (n6 / 2003 + 40692))) (.int 2147483399) = some (.int (n6 * (n6 / 2003 + 40692) % 2147483399)) := modD_pos p1
    generalize n6 * (n6 / 2003 + 40692) % 2147483399 = n7 at hm7
    have d8 : divD (.int n7) (.int 7) = some (.int (n7 / 7)) := divD_pos (by decide) (by decide)
    have hm8 : modD (.int (n7 / 7)) (.int m) = some (.int (n7 / 7 % m)) := modD_pos h0
    refine ⟨n7 / 7 % m, a, b, c + 1, ?_, (mod_in h0).1, (mod_in h0).2⟩
    simp [F__law_next, fnM, m__law_next, init, dIxV, ownL, k0, k1, k2, ca, intD_int, setD, canSet, sSetIx, s0, s2, putL, h4, hm4, h5, hm5, h6, d6, hm6, h7, d7, hm7, d8, hm8]
theorem e_src (n : Int) : ∃ t, F__law_source_of [.int n] = some (srcT t) := by
  obtain ⟨a, b, c, h⟩ := e_source n
  exact ⟨(a, b, c), h⟩
theorem e_nextT (t : Int × Int × Int) {m : Int} (h0 : 0 < m) (h1 : m ≤ 10 ^ 20) : ∃ r t', F__law_next (srcT t) [.int m] = some (.int r, srcT t') ∧ 0 ≤ r ∧ r < m := by
  obtain ⟨a, b, c⟩ := t
  obtain ⟨r, a', b', c', h, h2, h3⟩ := e_next a b c h0 h1
  exact ⟨r, (a', b', c'), h, h2, h3⟩
theorem e_oneX (t : Int × Int × Int) {ds : List PyData} (h0 : ds ≠ []) (h1 : ds.length ≤ 1000) : ∃ d t', F__law_one (srcT t) [.list ds] = some (d, srcT t') ∧ d ∈ ds := by
  have hp := List.length_pos_iff.mpr h0
  obtain ⟨r, t', hr, r0, r1⟩ := e_nextT t (m := (ds.length : Int)) (by omega) (by omega)
  have hlt : r.toNat < ds.length := by omega
  have hx : ds[r.toNat]? = some ds[r.toNat] := List.getElem?_eq_getElem hlt
  refine ⟨ds[r.toNat], t', ?_, List.getElem_mem hlt⟩
  have hix : ixD (.list ds) (.int r) = some ds[r.toNat] := by
    have := at_nat (ds := ds) (i := r.toNat) hx
    rw [show ((r.toNat : Nat) : Int) = r by omega] at this
    exact this
  have hlen : lenD [.list ds] = some (.int (ds.length : Int)) := Fd.len_list ds
  generalize ds[r.toNat] = x at *
  simp [F__law_one, fnM, m__law_one, init, hlen, dCallM, ownB, hr, hix]
theorem e_oneI (t : Int × Int × Int) {xs : List Int} {ds : List PyData} (hd : ds = xs.map .int) (h0 : xs ≠ []) (h1 : xs.length ≤ 1000) : ∃ x t', F__law_one (srcT t) [.list ds] = some (.int x, srcT t') ∧ x ∈ xs := by
  subst hd
  obtain ⟨d, t', h, hm⟩ := e_oneX t (ds := xs.map .int) (fun z => h0 (List.map_eq_nil_iff.mp z)) (by rw [List.length_map]; exact h1)
  obtain ⟨x, hx, rfl⟩ := List.mem_map.mp hm
  exact ⟨x, t', h, hx⟩
theorem e_rule (t : Int × Int × Int) : ∃ b r t', F__law_rule (srcT t) [] = some (ruD b r, srcT t') ∧ okR r := by
  obtain ⟨x, ta, hx, xm⟩ := e_oneI t (xs := [1, 2, 3, 3, 5, 8, 64]) (ds := [.int 1, .int 2, .int 3, .int 3, .int 5, .int 8, .int 64]) rfl (by decide) (by decide)
  have xb : 1 ≤ x ∧ x ≤ 64 := by
    simp only [List.mem_cons, List.not_mem_nil, or_false] at xm
    omega
  obtain ⟨d, tb, hd, dm⟩ := e_oneX ta (ds := [.tuple [.str "free"], .tuple [.str "step"], .tuple [.str "cap", .int x], .list [.str "cap", .int x], .tuple [.str "step", .int x], .list [.str "free"], .list [.str "step", .int x]]) (by simp) (by simp)
  have key : ∃ b r, d = ruD b r ∧ okR r := by
    simp only [List.mem_cons, List.not_mem_nil, or_false] at dm
    rcases dm with rfl | rfl | rfl | rfl | rfl | rfl | rfl
    · exact ⟨false, .free, rfl, trivial⟩
    · exact ⟨false, .step, rfl, trivial⟩
    · exact ⟨false, .cap x, rfl, xb⟩
    · exact ⟨true, .cap x, rfl, xb⟩
    · exact ⟨false, .stepc x, rfl, xb⟩
    · exact ⟨true, .free, rfl, trivial⟩
    · exact ⟨true, .stepc x, rfl, xb⟩
  obtain ⟨b, r, rfl, ok⟩ := key
  refine ⟨b, r, tb, ?_, ok⟩
  generalize ruD b r = RD at *
  generalize srcT t = S0 at *
  generalize srcT ta = S1 at *
  generalize srcT tb = S2 at *
  simp [F__law_rule, fnM, m__law_rule, init, small, dCallM, ownB, hx, setD, canSet, hd]
theorem lim_pos {r : Ru} {t : Int} (ok : okR r) (h0 : 0 ≤ t) : ∀ l, limR r t = some l → 1 ≤ l := fun l hl => by
  cases r with
  | free => cases hl
  | step =>
    have : t + 1 = l := Option.some.inj hl
    omega
  | cap n =>
    have : n = l := Option.some.inj hl
    have := ok.1
    omega
  | stepc n =>
    have : min (t + 1) n = l := Option.some.inj hl
    have := ok.1
    omega
theorem e_heights (t : Int × Int × Int) {b : Bool} {r : Ru} (ok : okR r) : ∃ (ns : List Int) (t' : Int × Int × Int), F__law_heights (srcT t) [ruD b r] = some (ns.map .int, srcT t') ∧ ns.length ≤ 14 ∧ ∀ c ∈ ns, 1 ≤ c ∧ c ≤ 10 := by
  obtain ⟨n, ta, hn, n0, n1⟩ := e_nextT t (m := 14) (by decide) (by decide)
  have hb : big n = true := decide_eq_true (by omega)
  obtain ⟨e', hw, ns, hi, t', y4, y5, y6, g4, g5, g6, rfl, o1, o2, o3⟩ := runFor_inv (g := dName 4) (b := m__law_heights_L1) (fun i e => ∃ (ns : List Int) (hi : Int) (t : Int × Int × Int) (y4 y5 y6 : Sl), frB y4 = true ∧ frB y5 = true ∧ frB y6 = true ∧ e = [.p (srcT t), .d (ruD b r), .o (ns.map .int), .d (.int hi), y4, y5, y6] ∧ ns.length = i ∧ 0 ≤ hi ∧ ∀ c ∈ ns, 1 ≤ c ∧ c ≤ 10) (rgD 0 n.toNat) 0 [.p (srcT ta), .d (ruD b r), .o [], .d (.int 0), .no, .no, .no] ⟨[], 0, ta, .no, .no, .no, rfl, rfl, rfl, rfl, rfl, by decide, fun _ h => (nomatch h)⟩ (by
    rintro i d e hi' ⟨ns, hi, t, y4, y5, y6, g4, g5, g6, rfl, o1, o2, o3⟩
    have hlt := (List.getElem?_eq_some_iff.mp hi').1
    unfold rgD at hlt
    rw [List.length_map, List.length_range] at hlt
    obtain ⟨x, tb, hx, xm⟩ := e_oneI t (xs := [0, 0, 1, 1, 2, 3, 9]) (ds := [.int 0, .int 0, .int 1, .int 1, .int 2, .int 3, .int 9]) rfl (by decide) (by decide)
    have xb : 0 ≤ x ∧ x ≤ 9 := by
      simp only [List.mem_cons, List.not_mem_nil, or_false] at xm
      omega
    obtain ⟨z, tc, hz, z0, z1⟩ := e_nextT tb (m := 12) (by decide) (by decide)
    have he := f_end (b := b) (r := r) (t := hi)
    have hpos := lim_pos ok o2
    have hset : dName 4 d [.p (srcT t), .d (ruD b r), .o (ns.map .int), .d (.int hi), y4, y5, y6] = some [.p (srcT t), .d (ruD b r), .o (ns.map .int), .d (.int hi), .d d, y5, y6] := by simp [setD, canSet_fr, g4]
    have hfew : few (ns.map PyData.int) = true := decide_eq_true (by rw [List.length_map]; omega)
    have done : ∀ (h : Int) (t2 : Int × Int × Int) (w5 : PyData), 1 ≤ h → h ≤ 10 → m__law_heights_L1 [.p (srcT t), .d (ruD b r), .o (ns.map .int), .d (.int hi), .d d, y5, y6] = some (.nx [.p (srcT t2), .d (ruD b r), .o ((ns ++ [h]).map .int), .d (.int (max hi h)), .d d, .d w5, .d (.int h)]) →
        ∃ e1 e2, dName 4 d [.p (srcT t), .d (ruD b r), .o (ns.map .int), .d (.int hi), y4, y5, y6] = some e1 ∧ (m__law_heights_L1 e1 = some (.nx e2) ∨ m__law_heights_L1 e1 = some (.ct e2)) ∧ ∃ (ns : List Int) (hi : Int) (t : Int × Int × Int) (y4 y5 y6 : Sl), frB y4 = true ∧ frB y5 = true ∧ frB y6 = true ∧ e2 = [.p (srcT t), .d (ruD b r), .o (ns.map .int), .d (.int hi), y4, y5, y6] ∧ ns.length = 0 + i + 1 ∧ 0 ≤ hi ∧ ∀ c ∈ ns, 1 ≤ c ∧ c ≤ 10 := fun h t2 w5 h1 h2 hr =>
      ⟨_, _, hset, .inl hr, ns ++ [h], max hi h, t2, _, _, _, rfl, rfl, rfl, rfl, by rw [List.length_append, o1]; rfl, by omega, fun c hc => by
        rcases List.mem_append.mp hc with hc | hc
        · exact o3 c hc
        · rw [List.mem_singleton] at hc
          omega⟩
    have happ : ∀ h : Int, (ns ++ [h]).map PyData.int = ns.map .int ++ [.int h] := fun h => by
      rw [List.map_append]
      rfl
    cases hlim : limR r hi with
    | none =>
      rw [hlim] at he
      refine done (1 + x) tb .none (by omega) (by omega) ?_
      rw [happ]
      generalize ns.map PyData.int = NS at *
      generalize ruD b r = RD at *
      generalize srcT t = S0 at *
      generalize srcT tb = S1 at *
      have hz' : (optD none) = PyData.none := rfl
      simp [m__law_heights_L1, he, hz', setD, canSet_fr, g5, g6, frB_d, small, dCallM, ownB, hx, sMeth, ownL, hfew, appF, putL, max2]
    | some l =>
      rw [hlim] at he hpos
      have hl1 := hpos l rfl
      have hz' : (optD (some l)) = PyData.int l := rfl
      rw [hz'] at he
      by_cases cz : 0 < z
      · refine done (min (1 + x) l) tc (.int l) (by omega) (by omega) ?_
        rw [happ]
        generalize ns.map PyData.int = NS at *
        generalize ruD b r = RD at *
        generalize srcT t = S0 at *
        generalize srcT tb = S1 at *
        generalize srcT tc = S2 at *
        simp [m__law_heights_L1, he, setD, canSet_fr, g5, g6, frB_d, small, dCallM, ownB, hx, hz, cz, sMeth, ownL, hfew, appF, putL, max2, min2]
      · refine done (1 + x) tc (.int l) (by omega) (by omega) ?_
        rw [happ]
        generalize ns.map PyData.int = NS at *
        generalize ruD b r = RD at *
        generalize srcT t = S0 at *
        generalize srcT tb = S1 at *
        generalize srcT tc = S2 at *
        simp [m__law_heights_L1, he, setD, canSet_fr, g5, g6, frB_d, small, dCallM, ownB, hx, hz, cz, sMeth, ownL, hfew, appF, putL, max2])
  have o1' : ns.length = n.toNat := by
    rw [o1]
    unfold rgD
    rw [List.length_map, List.length_range, Nat.zero_add]
  refine ⟨ns, t', ?_, by omega, o3⟩
  unfold F__law_heights fnML m__law_heights
  generalize m__law_heights_L1 = B at *
  generalize ns.map PyData.int = NS at *
  generalize ruD b r = RD at *
  generalize srcT t = S0 at *
  generalize srcT ta = S1 at *
  generalize srcT t' = S2 at *
  simp [init, small, sParX, xCons, xConsL, xNil, sSetsX, setD, setO, canSet, dCallM, ownB, hn, hb, hw, sRetO, ownL]
end Tk
end

section
set_option Elab.async false
set_option linter.all false
set_option maxRecDepth 100000
set_option maxHeartbeats 1000000
/-! k04: single heights. -/
namespace Tk
open PySem PySem.Spec PyProof.Rows L2 Evl Tb Fd
theorem okE_ints (n : Nat) (ns : List Int) : (ns.map PyData.int).all (okE n) = true := by
  rw [List.all_eq_true]
  intro d hd
  obtain ⟨x, _, rfl⟩ := List.mem_map.mp hd
  cases n <;> rfl
theorem okE_optT : ∀ o : Option (List Int), okE 1 (optT o) = true
  | none => rfl
  | some ns => okE_ints 0 ns
theorem ne_optT (o : Option (List Int)) : neD (optT o) (optT o) = some (.bool false) := neE_same 1 (okE_optT o) (by decide)
theorem nn_tup (ds : List PyData) : notNonD (.tuple ds) .none = some (.bool true) := rfl
theorem cw_01 {h : Int} {lim : Option Int} {c : List Int} (e : cwL h lim = some c) : ∀ x ∈ c, x = 0 ∨ x = 1 := fun x hx => by
  have rep : ∀ n : Nat, ∀ y ∈ List.replicate n (1 : Int), y = 0 ∨ y = 1 := fun n y hy => .inr (List.eq_of_mem_replicate hy)
  cases lim with
  | none =>
    have : List.replicate (h - 1).toNat 1 ++ [0] = c := Option.some.inj e
    rw [← this] at hx
    rcases List.mem_append.mp hx with hx | hx
    · exact rep _ x hx
    · rw [List.mem_singleton] at hx
      exact .inl hx
  | some l =>
    unfold cwL at e
    by_cases z : l < h
    · simp only [z, if_true] at e
      cases e
    · simp only [z, if_false] at e
      have := Option.some.inj e
      rw [← this] at hx
      rcases List.mem_append.mp hx with hx | hx
      · exact rep _ x hx
      · split at hx
        · cases hx
        · rw [List.mem_singleton] at hx
          exact .inl hx
theorem lc_next2 {s1 s2 s3 s4 s5 s6 s7 : Sl} : ∀ (ds : List PyData) (t : Int × Int × Int), ∃ (xs : List Int) (t' : Int × Int × Int), runLc (dName 8) (dK true) (dCallM 0 2 F__law_next (dCons (dK (.int 2)) (dK []))) [8] ds [.p (srcT t), s1, s2, s3, s4, s5, s6, s7, .no] = some (xs.map .int, [.p (srcT t'), s1, s2, s3, s4, s5, s6, s7, .no]) ∧ xs.length = ds.length ∧ ∀ x ∈ xs, x = 0 ∨ x = 1
  | [], t => ⟨[], t, rfl, rfl, fun _ h => nomatch h⟩
  | d :: ds, t => by
    obtain ⟨r, t1, n1, r0, r1⟩ := e_nextT t (m := 2) (by decide) (by decide)
    obtain ⟨xs, t2, h1, h2, h3⟩ := lc_next2 (s1 := s1) (s2 := s2) (s3 := s3) (s4 := s4) (s5 := s5) (s6 := s6) (s7 := s7) ds t1
    refine ⟨r :: xs, t2, ?_, by rw [List.length_cons, List.length_cons, h2], fun x hx => ?_⟩
    · unfold runLc
      have e1 : dName 8 d [.p (srcT t), s1, s2, s3, s4, s5, s6, s7, .no] = some [.p (srcT t), s1, s2, s3, s4, s5, s6, s7, .d d] := by simp [setD, canSet]
      rw [e1]
      have e2 : dCallM 0 2 F__law_next (dCons (dK (.int 2)) (dK [])) [.p (srcT t), s1, s2, s3, s4, s5, s6, s7, .d d] = some (.int r, [.p (srcT t1), s1, s2, s3, s4, s5, s6, s7, .d d]) := by simp [dCallM, ownB, n1]
      show (match dCallM 0 2 F__law_next (dCons (dK (.int 2)) (dK [])) [.p (srcT t), s1, s2, s3, s4, s5, s6, s7, .d d] with
        | none => none
        | some (y, e3) => match runLc (dName 8) (dK true) (dCallM 0 2 F__law_next (dCons (dK (.int 2)) (dK []))) [8] ds (wipeE e3 [8]) with
          | none => none
          | some (ys, e4) => some (y :: ys, e4)) = _
      rw [e2]
      have e3 : wipeE [.p (srcT t1), s1, s2, s3, s4, s5, s6, s7, .d d] [8] = [.p (srcT t1), s1, s2, s3, s4, s5, s6, s7, .no] := by simp [wipeE]
      simp only [e3, h1]
      rfl
    · rcases List.mem_cons.mp hx with rfl | hx
      · omega
      · exact h3 x hx
theorem dlc_next2 {s1 s2 s3 s4 s5 s6 s7 : Sl} (t : Int × Int × Int) : ∃ (xs : List Int) (t' : Int × Int × Int), dLc (dRg1 (dCons (dCallM 0 2 F__law_next (dCons (dK (.int 4)) (dK []))) (dK []))) (dName 8) (dK true) (dCallM 0 2 F__law_next (dCons (dK (.int 2)) (dK []))) [8] [.p (srcT t), s1, s2, s3, s4, s5, s6, s7, .no] = some (xs.map .int, [.p (srcT t'), s1, s2, s3, s4, s5, s6, s7, .no]) ∧ xs.length ≤ 4 ∧ ∀ x ∈ xs, x = 0 ∨ x = 1 := by
  obtain ⟨n, ta, hn, n0, n1⟩ := e_nextT t (m := 4) (by decide) (by decide)
  obtain ⟨xs, tb, h1, h2, h3⟩ := lc_next2 (s1 := s1) (s2 := s2) (s3 := s3) (s4 := s4) (s5 := s5) (s6 := s6) (s7 := s7) (rgD 0 n.toNat) ta
  have hlen : (rgD 0 n.toNat).length = n.toNat := by
    unfold rgD
    rw [List.length_map, List.length_range]
  have hb : big n = true := decide_eq_true (by omega)
  have hfew : fewer (rgD 0 n.toNat) = true := decide_eq_true (by rw [hlen]; omega)
  refine ⟨xs, tb, ?_, by rw [h2, hlen]; omega, h3⟩
  have hit : dRg1 (dCons (dCallM 0 2 F__law_next (dCons (dK (.int 4)) (dK []))) (dK [])) [.p (srcT t), s1, s2, s3, s4, s5, s6, s7, .no] = some (rgD 0 n.toNat, [.p (srcT ta), s1, s2, s3, s4, s5, s6, s7, .no]) := by
    simp [dCallM, ownB, hn, hb]
  unfold dLc
  rw [hit]
  have hv : vsFree [.p (srcT ta), s1, s2, s3, s4, s5, s6, s7, .no] [8] = true := rfl
  have hw : wipeE [.p (srcT ta), s1, s2, s3, s4, s5, s6, s7, .no] [8] = [.p (srcT ta), s1, s2, s3, s4, s5, s6, s7, .no] := rfl
  simp only [hv, hfew, Bool.and_self, if_true, hw, h1]
  rfl
theorem f_toss {b b2 : Bool} {cs : List Int} {n0 n : Nat} {r : Ru} {t h : Int} (hc : ∀ c ∈ cs, c = 0 ∨ c = 1) (hn : n0 ≤ cs.length) (ok : okR r) (h0 : 0 ≤ t) (hg : groF (limR r t) 1 (cs.drop n0) = some (h, n)) : F_toss [rows b (cs.map .int), .int (n0 : Nat), ruD b2 r, .int t] = some (.tuple [.int h, .int ((n0 + n : Nat) : Int)]) := FR_is ⟨b, cs, n0, b2, r, t, h, n, rfl, hc, hn, ok, h0, hg, rfl⟩ fun y hy => by
  obtain ⟨b', cs', n0', b2', r', t', h', n', e, _, _, _, _, hg', rfl⟩ := hy
  obtain ⟨e1, e2, e3, e4⟩ := l4_inj e
  have e5 := ints_inj (rows_inj e1)
  have e6 : n0 = n0' := by
    have := int_inj e2
    omega
  have e7 := ru_inj e3
  have e8 := int_inj e4
  subst e5 e6 e7 e8
  rw [hg] at hg'
  cases hg'
  rfl
theorem single_L1 {b : Bool} {r : Ru} {hi h : Int} (ok : okR r) (h0 : 0 ≤ hi) (h1 : 1 ≤ h) (h2 : h ≤ 20) (t : Int × Int × Int) {x5 x6 x7 : Sl} (f5 : frB x5 = true) (f6 : frB x6 = true) (f7 : frB x7 = true) : ∃ (t' : Int × Int × Int) (y5 y6 y7 : Sl), frB y5 = true ∧ frB y6 = true ∧ frB y7 = true ∧
    m__law_single_right_L1 [.p (srcT t), .d (ruD b r), .d (.int hi), .d (optD (limR r hi)), .d (.int h), x5, x6, x7, .no] = some (.nx [.p (srcT t'), .d (ruD b r), .d (.int hi), .d (optD (limR r hi)), .d (.int h), y5, y6, y7, .no]) := by
  have c1 := f_for (b := b) (t := hi) h1 (by omega) ok h0
  have c2 := f_coins (h := h) (g := limR r hi) h1 (by omega)
  have hne := ne_optT (cwL h (limR r hi))
  cases hcw : cwL h (limR r hi) with
  | none =>
    rw [hcw] at c1 c2 hne
    refine ⟨t, .d (optT none), x6, x7, rfl, f6, f7, ?_⟩
    have e0 : optT none = .none := rfl
    rw [e0] at c1 c2 hne
    generalize optD (limR r hi) = OD at *
    generalize ruD b r = RD at *
    generalize srcT t = S0 at *
    simp [m__law_single_right_L1, c1, c2, hne, setD, canSet_fr, f5, e0]
  | some c =>
    rw [hcw] at c1 c2 hne
    have e0 : optT (some c) = .tuple (c.map .int) := rfl
    rw [e0] at c1 c2 hne
    obtain ⟨A, ta, a1, a2, a3⟩ := dlc_next2 (s1 := .d (ruD b r)) (s2 := .d (.int hi)) (s3 := .d (optD (limR r hi))) (s4 := .d (.int h)) (s5 := .d (.tuple (c.map .int))) (s6 := x6) (s7 := x7) t
    obtain ⟨T, tb, b1, b2, b3⟩ := dlc_next2 (s1 := .d (ruD b r)) (s2 := .d (.int hi)) (s3 := .d (optD (limR r hi))) (s4 := .d (.int h)) (s5 := .d (.tuple (c.map .int))) (s6 := .d (.tuple (A.map .int))) (s7 := x7) ta
    have hcl := cwL_len hcw h1 (by omega)
    have hg : groF (limR r hi) 1 ((A ++ c ++ T).drop A.length) = some (h, c.length) := by
      rw [List.append_assoc, List.drop_left]
      exact cw_gro hcw h1
    have ht := f_toss (b := true) (b2 := b) (cs := A ++ c ++ T) (n0 := A.length) (t := hi) (fun x hx => by
      rcases List.mem_append.mp hx with hx | hx
      · rcases List.mem_append.mp hx with hx | hx
        · exact a3 x hx
        · exact cw_01 hcw x hx
      · exact b3 x hx) (by rw [List.length_append, List.length_append]; omega) ok h0 hg
    have hadd1 : addD (.tuple (A.map .int)) (.tuple (c.map .int)) = some (.tuple ((A ++ c).map PyData.int)) := by
      show (if (A.map PyData.int).length + (c.map PyData.int).length ≤ 100000 then some (PyData.tuple _) else none) = _
      rw [if_pos (by rw [List.length_map, List.length_map]; omega), List.map_append]
    have hadd2 : addD (.list ((A ++ c).map PyData.int)) (.list (T.map .int)) = some (.list ((A ++ c ++ T).map PyData.int)) := by
      show (if ((A ++ c).map PyData.int).length + (T.map PyData.int).length ≤ 100000 then some (PyData.list _) else none) = _
      rw [if_pos (by rw [List.length_map, List.length_map, List.length_append]; omega), ← List.map_append]
    have hll : lenD [.tuple (A.map .int)] = some (.int (A.length : Int)) := by
      show some (PyData.int ((A.map PyData.int).length : Int)) = _
      rw [List.length_map]
    have hlc : lenD [.tuple (c.map .int)] = some (.int (c.length : Int)) := by
      show some (PyData.int ((c.map PyData.int).length : Int)) = _
      rw [List.length_map]
    have hlst : lstD [.tuple ((A ++ c).map PyData.int)] = some ((A ++ c).map PyData.int) := rfl
    have htup : tupD [.list (A.map .int)] = some (.tuple (A.map PyData.int)) := rfl
    have er : rows true ((A ++ c ++ T).map PyData.int) = .list ((A ++ c ++ T).map .int) := rfl
    rw [er] at ht
    have hs : ((A.length + c.length : Nat) : Int) = (A.length : Int) + (c.length : Int) := by omega
    rw [hs] at ht
    have hne2 : neD (.tuple [.int h, .int ((A.length : Int) + (c.length : Int))]) (.tuple [.int h, .int ((A.length : Int) + (c.length : Int))]) = some (.bool false) := neE_same 1 rfl (by decide)
    refine ⟨tb, .d (.tuple (c.map .int)), .d (.tuple (A.map .int)), .d (.list (T.map .int)), rfl, rfl, rfl, ?_⟩
    clear hg hcl hs
    generalize (A.length : Int) = al at *
    generalize (c.length : Int) = cl at *
    generalize (A ++ c ++ T).map PyData.int = ACT at *
    generalize (A ++ c).map PyData.int = AC at *
    generalize A.map PyData.int = AD at *
    generalize T.map PyData.int = TD at *
    generalize c.map PyData.int = CD at *
    generalize optD (limR r hi) = OD at *
    generalize ruD b r = RD at *
    generalize srcT t = S0 at *
    generalize srcT ta = S1 at *
    generalize srcT tb = S2 at *
    simp [m__law_single_right_L1, nn_tup, c1, c2, hne, setD, canSet_fr, f5, f6, f7, frB_d, a1, htup, b1, hadd1, hlst, hadd2, hll, hlc, ht, small, hne2]
theorem e_single (t : Int × Int × Int) {b : Bool} {r : Ru} (ok : okR r) : ∃ t', F__law_single_right (srcT t) [ruD b r] = some (.bool true, srcT t') := by
  obtain ⟨hi, ta, hx, xm⟩ := e_oneI t (xs := [0, 1, 2, 5, 60]) (ds := [.int 0, .int 1, .int 2, .int 5, .int 60]) rfl (by decide) (by decide)
  have h0 : 0 ≤ hi := by
    simp only [List.mem_cons, List.not_mem_nil, or_false] at xm
    omega
  have he := f_end (b := b) (r := r) (t := hi)
  have hm := f_most (b := b) (r := r) (t := hi) ok h0
  have hne : neD (optD (limR r hi)) (optD (limR r hi)) = some (.bool false) := neE_same 0 (by cases limR r hi <;> rfl) (by decide)
  obtain ⟨e', hw, t', x4, x5, x6, x7, f4, f5, f6, f7, rfl⟩ := runFor_all (g := dName 4) (b := m__law_single_right_L1) (fun e => ∃ (t : Int × Int × Int) (x4 x5 x6 x7 : Sl), frB x4 = true ∧ frB x5 = true ∧ frB x6 = true ∧ frB x7 = true ∧ e = [.p (srcT t), .d (ruD b r), .d (.int hi), .d (optD (limR r hi)), x4, x5, x6, x7, .no]) (ds := rgD 1 11) (e := [.p (srcT ta), .d (ruD b r), .d (.int hi), .d (optD (limR r hi)), .no, .no, .no, .no, .no]) ⟨_, _, _, _, _, rfl, rfl, rfl, rfl, rfl⟩ (by
    rintro d hd e ⟨t, x4, x5, x6, x7, f4, f5, f6, f7, rfl⟩
    unfold rgD at hd
    obtain ⟨i, hi2, rfl⟩ := List.mem_map.mp hd
    have hlt := List.mem_range.mp hi2
    obtain ⟨t', y5, y6, y7, g5, g6, g7, hr⟩ := single_L1 (b := b) (h := 1 + (i : Int)) ok h0 (by omega) (by omega) t f5 f6 f7
    exact ⟨[.p (srcT t), .d (ruD b r), .d (.int hi), .d (optD (limR r hi)), .d (.int (1 + (i : Int))), x5, x6, x7, .no], _, by simp [setD, canSet_fr, f4], .inl hr, _, _, _, _, _, rfl, g5, g6, g7, rfl⟩)
  refine ⟨t', ?_⟩
  unfold F__law_single_right fnM m__law_single_right
  generalize m__law_single_right_L1 = B at *
  generalize optD (limR r hi) = OD at *
  generalize ruD b r = RD at *
  generalize srcT t = S0 at *
  generalize srcT ta = S1 at *
  generalize srcT t' = S2 at *
  have hb1 : big 1 = true := rfl
  have hb12 : big 12 = true := rfl
  simp [init, small, dCallM, ownB, hx, setD, canSet, he, hm, hne, hb1, hb12, hw]
end Tk
end

section
set_option Elab.async false
set_option linter.all false
set_option maxRecDepth 100000
set_option maxHeartbeats 1000000
/-! k04: coins of heights, heights of coins. -/
namespace Tk
open PySem PySem.Spec PyProof.Rows L2 Evl Tb Fd
theorem due_01 {r : Ru} : ∀ {ns : List Int} {t : Int} {cs : List Int}, dueF r t ns = some cs → ∀ x ∈ cs, x = 0 ∨ x = 1
  | [], t, cs, e, x, hx => by
    cases Option.some.inj e
    cases hx
  | h :: ns, t, cs, e, x, hx => by
    obtain ⟨c, cs', e1, e2, rfl⟩ := due_split e
    rcases List.mem_append.mp hx with hx | hx
    · exact cw_01 e1 x hx
    · exact due_01 e2 x hx
theorem due_len {r : Ru} : ∀ {ns : List Int} {t : Int} {cs : List Int}, (∀ h ∈ ns, 1 ≤ h ∧ h ≤ 100) → dueF r t ns = some cs → cs.length ≤ 100 * ns.length
  | [], t, cs, _, e => by
    cases Option.some.inj e
    exact Nat.zero_le _
  | h :: ns, t, cs, hh, e => by
    obtain ⟨c, cs', e1, e2, rfl⟩ := due_split e
    have h1 := hh h (List.mem_cons_self ..)
    have a1 := cwL_len e1 h1.1 h1.2
    have a2 := due_len (fun x hx => hh x (List.mem_cons_of_mem _ hx)) e2
    rw [List.length_append, List.length_cons]
    omega
theorem lim_one {r : Ru} {t : Int} (ok : okR r) (h0 : 0 ≤ t) (h : limR r 1 = some 1) : limR r t = some 1 := by
  cases r with
  | free => cases h
  | step => cases h
  | cap n => exact h
  | stepc n =>
    have h2 : min (1 + 1) n = 1 := Option.some.inj h
    show some (min (t + 1) n) = some 1
    congr 1
    omega
theorem lim_back {r : Ru} {t : Int} (ok : okR r) (h1 : 1 ≤ t) (h : limR r t = some 1) : limR r 1 = some 1 := by
  cases r with
  | free => cases h
  | step =>
    have : t + 1 = 1 := Option.some.inj h
    omega
  | cap n => exact h
  | stepc n =>
    have h2 : min (t + 1) n = 1 := Option.some.inj h
    show some (min (1 + 1) n) = some 1
    congr 1
    omega
theorem due_bad {r : Ru} (ok : okR r) (hb : limR r 1 = some 1) : ∀ {ns : List Int} {t : Int} {cs : List Int}, 0 ≤ t → (∀ h ∈ ns, 1 ≤ h) → dueF r t ns = some cs → cs = []
  | [], t, cs, _, _, e => (Option.some.inj e).symm
  | h :: ns, t, cs, h0, hh, e => by
    obtain ⟨c, cs', e1, e2, rfl⟩ := due_split e
    have h1 := hh h (List.mem_cons_self ..)
    rw [lim_one ok h0 hb] at e1
    unfold cwL at e1
    by_cases z : 1 < h
    · simp only [z, if_true] at e1
      cases e1
    · have hz : h = 1 := by omega
      subst hz
      simp at e1
      rw [due_bad ok hb (t := max t 1) (by omega) (fun x hx => hh x (List.mem_cons_of_mem _ hx)) e2, e1]
      rfl
theorem rd_fuel {r : Ru} (ok : okR r) (nb : limR r 1 ≠ some 1) : ∀ (n m : Nat) (t : Int) (cs : List Int), 0 ≤ t → 2 * cs.length + (if t = 0 then 1 else 0) ≤ n → 2 * cs.length + (if t = 0 then 1 else 0) ≤ m → rdF r n t cs = rdF r m t cs
  | 0, m, t, cs, h0, h1, h2 => by
    have : cs = [] := List.eq_nil_of_length_eq_zero (by omega)
    subst this
    cases m with
    | zero => rfl
    | succ m =>
      unfold rdF
      rw [if_pos rfl]
  | n + 1, 0, t, cs, h0, h1, h2 => by
    have : cs = [] := List.eq_nil_of_length_eq_zero (by omega)
    subst this
    unfold rdF
    rw [if_pos rfl]
  | n + 1, m + 1, t, cs, h0, h1, h2 => by
    unfold rdF
    by_cases hc : cs = []
    · rw [if_pos hc, if_pos hc]
    · rw [if_neg hc, if_neg hc]
      cases hg : groF (limR r t) 1 cs with
      | none => rfl
      | some p =>
        obtain ⟨g1, g2, g3⟩ := groF_facts (k := p.2) (h' := p.1) hg
        have hlen : (cs.drop p.2).length = cs.length - p.2 := List.length_drop
        have ht1 : (if max t p.1 = 0 then 1 else 0) = 0 := by
          rw [if_neg]
          omega
        have key : 2 * (cs.drop p.2).length + (if max t p.1 = 0 then 1 else 0) ≤ n ∧ 2 * (cs.drop p.2).length + (if max t p.1 = 0 then 1 else 0) ≤ m := by
          rw [ht1, hlen]
          cases ho : opnF (limR r t) 1 with
          | true =>
            have := g3 ho
            have := List.length_pos_iff.mpr hc
            by_cases z : t = 0
            · rw [if_pos z] at h1 h2
              omega
            · rw [if_neg z] at h1 h2
              omega
          | false =>
            have hl : limR r t = some 1 := by
              cases hlim : limR r t with
              | none =>
                rw [hlim] at ho
                cases ho
              | some l =>
                rw [hlim] at ho
                have a1 := lim_pos ok h0 l hlim
                have a2 : ¬ 1 < l := of_decide_eq_false ho
                rw [show l = 1 by omega]
            have z : t = 0 := by
              by_cases z : t = 0
              · exact z
              · exact absurd (lim_back ok (by omega) hl) nb
            rw [if_pos z] at h1 h2
            omega
        show Option.map (fun x => p.1 :: x) (rdF r n (max t p.1) (cs.drop p.2)) = Option.map (fun x => p.1 :: x) (rdF r m (max t p.1) (cs.drop p.2))
        rw [rd_fuel ok nb n m (max t p.1) (cs.drop p.2) (by omega) key.1 key.2]
/-- the coins of heights lead back to them, but for the last that take none -/
theorem hof_due {r : Ru} (ok : okR r) {ns cs : List Int} (hh : ∀ h ∈ ns, 1 ≤ h) (e : dueF r 0 ns = some cs) : ¬ badR r cs ∧ rdF r (2 * cs.length + 1) 0 cs = some (trimF r 0 ns) := by
  have h1 := rd_due (n := ns.length + 1) hh e (by omega)
  by_cases hb : limR r 1 = some 1
  · have hc := due_bad ok hb (Int.le_refl 0) hh e
    subst hc
    refine ⟨fun z => z.1 rfl, ?_⟩
    rw [← h1]
    unfold rdF
    rw [if_pos rfl, if_pos rfl]
  · refine ⟨fun z => hb z.2, ?_⟩
    have h2 := rd_due (n := max (ns.length + 1) (2 * cs.length + 1)) hh e (by omega)
    rw [← h2]
    exact rd_fuel ok hb _ _ 0 cs (Int.le_refl 0) (by rw [if_pos rfl]; omega) (by rw [if_pos rfl]; omega)
theorem rd_free : ∀ (k n : Nat) (t : Int), k ≤ n → rdF .free n t (List.replicate k 0) = some (List.replicate k 1)
  | 0, 0, t, _ => rfl
  | 0, n + 1, t, _ => by
    unfold rdF
    rw [List.replicate_zero, if_pos rfl]
    rfl
  | k + 1, 0, t, h => by omega
  | k + 1, n + 1, t, h => by
    unfold rdF
    rw [List.replicate_succ, if_neg (by simp)]
    have hg : groF (limR .free t) 1 (0 :: List.replicate k 0) = some (1, 1) := by
      rw [groF]
      rfl
    rw [hg]
    show ((rdF .free n (max t 1) (List.replicate k 0)).map (1 :: ·)) = _
    rw [rd_free k n (max t 1) (by omega)]
    rfl
theorem due_cap2 : ∀ (k : Nat) (t : Int), dueF (.cap 2) t (List.replicate k 1) = some (List.replicate k 0)
  | 0, t => rfl
  | k + 1, t => by
    rw [List.replicate_succ]
    unfold dueF
    have hc : cwL 1 (limR (.cap 2) t) = some [0] := rfl
    rw [hc]
    simp only [due_cap2 k (max t 1)]
    rfl
theorem outD_ok (r : Ru) (cs : List Int) : okE 1 (outD r cs) = true := by
  have w1 : SeqAt.shaped (.str "spare") = true := by decide +kernel
  have w2 : SeqAt.shaped (.str "short") = true := by decide +kernel
  by_cases hb : badR r cs
  · rw [outD_bad hb]
    show (SeqAt.shaped (.str "spare") && (true && true)) = true
    rw [w1]
    rfl
  · cases hr : rdF r (2 * cs.length + 1) 0 cs with
    | none =>
      rw [outD_none hb hr]
      show (SeqAt.shaped (.str "short") && (true && true)) = true
      rw [w2]
      rfl
    | some l =>
      rw [outD_some hb hr]
      exact okE_ints 0 l
end Tk
end

section
set_option Elab.async false
set_option linter.all false
set_option maxRecDepth 100000
set_option maxHeartbeats 1000000
/-! k04: the law. -/
namespace Tk
open PySem PySem.Spec PyProof.Rows L2 Evl Tb Fd
/-- a slot that may be set -/
theorem lc_coins {s0 s1 s3 s4 s5 s6 s7 s8 s9 : Sl} : ∀ (ds : List PyData) (t : Int × Int × Int), ∃ (xs : List Int) (t' : Int × Int × Int), runLc (dName 10) (dK true) (dCallM 2 2 F__law_one (dCons (dFz (dLst (dCons (dK (.int 0)) (dCons (dK (.int 1)) (dCons (dCallM 2 2 F__law_next (dCons (dK (.int 2)) (dK []))) (dK [])))))) (dK []))) [10] ds [s0, s1, .o (srcT t), s3, s4, s5, s6, s7, s8, s9, .no] = some (xs.map .int, [s0, s1, .o (srcT t'), s3, s4, s5, s6, s7, s8, s9, .no]) ∧ xs.length = ds.length ∧ ∀ x ∈ xs, x = 0 ∨ x = 1
  | [], t => ⟨[], t, rfl, rfl, fun _ h => nomatch h⟩
  | d :: ds, t => by
    obtain ⟨r, t1, n1, r0, r1⟩ := e_nextT t (m := 2) (by decide) (by decide)
    obtain ⟨x, t2, n2, xm⟩ := e_oneI t1 (xs := [0, 1, r]) (ds := [.int 0, .int 1, .int r]) rfl (by simp) (by simp)
    have x01 : x = 0 ∨ x = 1 := by
      simp only [List.mem_cons, List.not_mem_nil, or_false] at xm
      omega
    obtain ⟨xs, t3, h1, h2, h3⟩ := lc_coins (s0 := s0) (s1 := s1) (s3 := s3) (s4 := s4) (s5 := s5) (s6 := s6) (s7 := s7) (s8 := s8) (s9 := s9) ds t2
    refine ⟨x :: xs, t3, ?_, by rw [List.length_cons, List.length_cons, h2], fun y hy => ?_⟩
    · unfold runLc
      have e1 : dName 10 d [s0, s1, .o (srcT t), s3, s4, s5, s6, s7, s8, s9, .no] = some [s0, s1, .o (srcT t), s3, s4, s5, s6, s7, s8, s9, .d d] := by simp [setD, canSet]
      rw [e1]
      have e2 : dCallM 2 2 F__law_one (dCons (dFz (dLst (dCons (dK (.int 0)) (dCons (dK (.int 1)) (dCons (dCallM 2 2 F__law_next (dCons (dK (.int 2)) (dK []))) (dK [])))))) (dK [])) [s0, s1, .o (srcT t), s3, s4, s5, s6, s7, s8, s9, .d d] = some (.int x, [s0, s1, .o (srcT t2), s3, s4, s5, s6, s7, s8, s9, .d d]) := by simp [small, dCallM, ownB, n1, n2]
      show (match dCallM 2 2 F__law_one (dCons (dFz (dLst (dCons (dK (.int 0)) (dCons (dK (.int 1)) (dCons (dCallM 2 2 F__law_next (dCons (dK (.int 2)) (dK []))) (dK [])))))) (dK [])) [s0, s1, .o (srcT t), s3, s4, s5, s6, s7, s8, s9, .d d] with
        | none => none
        | some (y, e3) => match runLc (dName 10) (dK true) (dCallM 2 2 F__law_one (dCons (dFz (dLst (dCons (dK (.int 0)) (dCons (dK (.int 1)) (dCons (dCallM 2 2 F__law_next (dCons (dK (.int 2)) (dK []))) (dK [])))))) (dK []))) [10] ds (wipeE e3 [10]) with
          | none => none
          | some (ys, e4) => some (y :: ys, e4)) = _
      rw [e2]
      have e3 : wipeE [s0, s1, .o (srcT t2), s3, s4, s5, s6, s7, s8, s9, .d d] [10] = [s0, s1, .o (srcT t2), s3, s4, s5, s6, s7, s8, s9, .no] := by simp [wipeE]
      simp only [e3, h1]
      rfl
    · rcases List.mem_cons.mp hy with rfl | hy
      · exact x01
      · exact h3 y hy
theorem dlc_coins {s0 s1 s3 s4 s5 s6 s7 s8 s9 : Sl} (t : Int × Int × Int) : ∃ (xs : List Int) (t' : Int × Int × Int), dLc (dRg1 (dCons (dCallM 2 2 F__law_next (dCons (dK (.int 61)) (dK []))) (dK []))) (dName 10) (dK true) (dCallM 2 2 F__law_one (dCons (dFz (dLst (dCons (dK (.int 0)) (dCons (dK (.int 1)) (dCons (dCallM 2 2 F__law_next (dCons (dK (.int 2)) (dK []))) (dK [])))))) (dK []))) [10] [s0, s1, .o (srcT t), s3, s4, s5, s6, s7, s8, s9, .no] = some (xs.map .int, [s0, s1, .o (srcT t'), s3, s4, s5, s6, s7, s8, s9, .no]) ∧ xs.length ≤ 61 ∧ ∀ x ∈ xs, x = 0 ∨ x = 1 := by
  obtain ⟨n, ta, hn, n0, n1⟩ := e_nextT t (m := 61) (by decide) (by decide)
  obtain ⟨xs, tb, h1, h2, h3⟩ := lc_coins (s0 := s0) (s1 := s1) (s3 := s3) (s4 := s4) (s5 := s5) (s6 := s6) (s7 := s7) (s8 := s8) (s9 := s9) (rgD 0 n.toNat) ta
  have hlen : (rgD 0 n.toNat).length = n.toNat := by
    unfold rgD
    rw [List.length_map, List.length_range]
  have hb : big n = true := decide_eq_true (by omega)
  have hfew : fewer (rgD 0 n.toNat) = true := decide_eq_true (by rw [hlen]; omega)
  refine ⟨xs, tb, ?_, by rw [h2, hlen]; omega, h3⟩
  have hit : dRg1 (dCons (dCallM 2 2 F__law_next (dCons (dK (.int 61)) (dK []))) (dK [])) [s0, s1, .o (srcT t), s3, s4, s5, s6, s7, s8, s9, .no] = some (rgD 0 n.toNat, [s0, s1, .o (srcT ta), s3, s4, s5, s6, s7, s8, s9, .no]) := by
    simp [dCallM, ownB, hn, hb]
  unfold dLc
  rw [hit]
  have hv : vsFree [s0, s1, .o (srcT ta), s3, s4, s5, s6, s7, s8, s9, .no] [10] = true := rfl
  have hw : wipeE [s0, s1, .o (srcT ta), s3, s4, s5, s6, s7, s8, s9, .no] [10] = [s0, s1, .o (srcT ta), s3, s4, s5, s6, s7, s8, s9, .no] := rfl
  simp only [hv, hfew, Bool.and_self, if_true, hw, h1]
  rfl
/-- what comes of heights, and of coins -/
theorem due_side {b : Bool} {r : Ru} (ok : okR r) {ns : List Int} (hl : ns.length ≤ 14) (hh : ∀ c ∈ ns, 1 ≤ c ∧ c ≤ 10) : ∃ D : PyData, F__law_due [.list (ns.map .int), ruD b r] = some D ∧ F_coins_of [.list (ns.map .int), ruD b r] = some D ∧ F_coins_of [.tuple (ns.map .int), ruD b r] = some D ∧ neD D D = some (.bool false) ∧
    (D = .none ∨ (notNonD D .none = some (.bool true) ∧ ∃ L : PyData, F_heights_of [D, ruD b r] = some L ∧ F__law_bare [.list (ns.map .int), ruD b r] = some L ∧ neD L L = some (.bool false))) := by
  have h100 : ∀ c ∈ ns, 1 ≤ c ∧ c ≤ 100 := fun c hc => by
    have := hh c hc
    omega
  have h1 : ∀ c ∈ ns, 1 ≤ c := fun c hc => (hh c hc).1
  refine ⟨optT (dueF r 0 ns), f_due (b := true) h100 (by omega), f_of (b := true) h100 ok (by omega), f_of (b := false) h100 ok (by omega), ne_optT _, ?_⟩
  cases hd : dueF r 0 ns with
  | none => exact .inl rfl
  | some cs =>
    right
    obtain ⟨nb, hr⟩ := hof_due ok h1 hd
    have hlen := due_len h100 hd
    have hb := f_bare (b := true) (b2 := b) (r := r) h100 (by omega)
    rw [bare_trim ns.length rfl hd] at hb
    exact ⟨rfl, _, f_hof (b := false) (due_01 hd) ok (by omega) nb hr, hb, neE_same 1 (okE_ints 0 _) (by decide)⟩
theorem coin_side {b : Bool} {r : Ru} (ok : okR r) {cs : List Int} (hl : cs.length ≤ 61) (h01 : ∀ c ∈ cs, c = 0 ∨ c = 1) : ∃ C : PyData, F__law_said [.list (cs.map .int), ruD b r] = some C ∧ F__law_read [.list (cs.map .int), ruD b r] = some C ∧ neD C C = some (.bool false) ∧
    ((∃ xs, C = .tuple xs) ∨ ∃ xs, C = .list xs ∧ F_coins_of [.list xs, ruD b r] = some (.tuple (cs.map .int))) := by
  refine ⟨outD r cs, f_said (b := true) h01 ok (by omega), f_read (b := true) h01 ok (by omega), neE_same 1 (outD_ok r cs) (by decide), ?_⟩
  by_cases hb : badR r cs
  · rw [outD_bad hb]
    exact .inl ⟨_, rfl⟩
  · cases hr : rdF r (2 * cs.length + 1) 0 cs with
    | none =>
      rw [outD_none hb hr]
      exact .inl ⟨_, rfl⟩
    | some l =>
      rw [outD_some hb hr]
      obtain ⟨d1, d2, d3⟩ := due_rd ok (n := 2 * cs.length + 1) (t := 0) (Int.le_refl 0) h01 (by rw [if_pos rfl]; omega) (fun z y => hb ⟨z, y⟩) hr
      refine .inr ⟨_, rfl, ?_⟩
      have := f_of (b := true) (b2 := b) (ns := l) (r := r) (fun h hh => by have := d3 h hh; omega) ok (by omega)
      rw [d1] at this
      exact this
theorem law_turn {sd cd x3 x9 : Sl} (t : Int × Int × Int) {x4 x5 x6 x7 x8 : Sl} (f4 : frB x4 = true) (f5 : frB x5 = true) (f6 : frB x6 = true) (f7 : frB x7 = true) (f8 : frB x8 = true) : ∃ t' y4 y5 y6 y7 y8, frB y4 = true ∧ frB y5 = true ∧ frB y6 = true ∧ frB y7 = true ∧ frB y8 = true ∧
    m_law_L1 [sd, cd, .o (srcT t), x3, x4, x5, x6, x7, x8, x9, .no] = some (.nx [sd, cd, .o (srcT t'), x3, y4, y5, y6, y7, y8, x9, .no]) := by
  obtain ⟨b, r, ta, hr, ok⟩ := e_rule t
  obtain ⟨ns, tb, hn, n1, n2⟩ := e_heights ta (b := b) ok
  obtain ⟨D, d1, d2, d3, d4, d5⟩ := due_side (b := b) ok n1 n2
  obtain ⟨cs, tc, hc, c1, c2⟩ := dlc_coins (s0 := sd) (s1 := cd) (s3 := x3) (s4 := .d (ruD b r)) (s5 := .d (.list (ns.map .int))) (s6 := .d D) (s7 := x7) (s8 := x8) (s9 := x9) tb
  obtain ⟨C, e1, e2, e3, e4⟩ := coin_side (b := b) ok c1 c2
  obtain ⟨td, hs⟩ := e_single tc (b := b) ok
  have htup : tupD [.list (ns.map .int)] = some (.tuple (ns.map PyData.int)) := rfl
  have htup2 : tupD [.list (cs.map .int)] = some (.tuple (cs.map PyData.int)) := rfl
  have hne : neD (.tuple (cs.map PyData.int)) (.tuple (cs.map PyData.int)) = some (.bool false) := neE_same 1 (okE_ints 0 cs) (by decide)
  have hnn : notNonD .none .none = some (.bool false) := rfl
  refine ⟨td, .d (ruD b r), .d (.list (ns.map .int)), .d D, .d (.list (cs.map .int)), .d C, rfl, rfl, rfl, rfl, rfl, ?_⟩
  clear n1 n2 c1 c2
  generalize ns.map PyData.int = NS at *
  generalize cs.map PyData.int = CD at *
  generalize ruD b r = RD at *
  generalize srcT t = S0 at *
  generalize srcT ta = S1 at *
  generalize srcT tb = S2 at *
  generalize srcT tc = S3 at *
  generalize srcT td = S4 at *
  rcases d5 with rfl | ⟨p1, L, p2, p3, p4⟩ <;> rcases e4 with ⟨CX, rfl⟩ | ⟨CX, rfl, q2⟩
  · simp [m_law_L1, dCallM, ownB, hr, hn, setD, canSet_fr, frB_d, f4, f5, f6, f7, f8, d1, d2, d3, d4, htup, hnn, hc, e1, e2, e3, hs]
  · simp [m_law_L1, dCallM, ownB, hr, hn, setD, canSet_fr, frB_d, f4, f5, f6, f7, f8, d1, d2, d3, d4, htup, hnn, hc, e1, e2, e3, q2, htup2, hne, hs]
  · simp [m_law_L1, dCallM, ownB, hr, hn, setD, canSet_fr, frB_d, f4, f5, f6, f7, f8, d1, d2, d3, d4, htup, p1, p2, p3, p4, hc, e1, e2, e3, hs]
  · simp [m_law_L1, dCallM, ownB, hr, hn, setD, canSet_fr, frB_d, f4, f5, f6, f7, f8, d1, d2, d3, d4, htup, p1, p2, p3, p4, hc, e1, e2, e3, q2, htup2, hne, hs]
theorem law_cell {sd : PyData} {x2 x3 x4 x5 x6 x7 x8 x9 : Sl} (f2 : frB x2 = true) (f3 : frB x3 = true) (f4 : frB x4 = true) (f5 : frB x5 = true) (f6 : frB x6 = true) (f7 : frB x7 = true) (f8 : frB x8 = true) (n : Int) : ∃ y2 y3 y4 y5 y6 y7 y8, frB y2 = true ∧ frB y3 = true ∧ frB y4 = true ∧ frB y5 = true ∧ frB y6 = true ∧ frB y7 = true ∧ frB y8 = true ∧
    m_law_L2 [.d sd, .d (.int n), x2, x3, x4, x5, x6, x7, x8, x9, .no] = some (.nx [.d sd, .d (.int n), y2, y3, y4, y5, y6, y7, y8, x9, .no]) := by
  obtain ⟨t, ht⟩ := e_src n
  have hb3 : big 3 = true := rfl
  obtain ⟨e', hw, t', y3, y4, y5, y6, y7, y8, g3, g4, g5, g6, g7, g8, rfl⟩ := runFor_all (g := dName 3) (b := m_law_L1) (fun e => ∃ t x3 x4 x5 x6 x7 x8, frB x3 = true ∧ frB x4 = true ∧ frB x5 = true ∧ frB x6 = true ∧ frB x7 = true ∧ frB x8 = true ∧ e = [.d sd, .d (.int n), .o (srcT t), x3, x4, x5, x6, x7, x8, x9, .no]) (ds := rgD 0 3) (e := [.d sd, .d (.int n), .o (srcT t), x3, x4, x5, x6, x7, x8, x9, .no]) ⟨_, _, _, _, _, _, _, f3, f4, f5, f6, f7, f8, rfl⟩ (by
    rintro d hd e ⟨t, x3, x4, x5, x6, x7, x8, f3, f4, f5, f6, f7, f8, rfl⟩
    obtain ⟨t', y4, y5, y6, y7, y8, g4, g5, g6, g7, g8, h1⟩ := law_turn (sd := .d sd) (cd := .d (.int n)) (x3 := .d d) (x9 := x9) t f4 f5 f6 f7 f8
    exact ⟨[.d sd, .d (.int n), .o (srcT t), .d d, x4, x5, x6, x7, x8, x9, .no], _, by simp [setD, canSet_fr, f3], .inl h1, _, _, _, _, _, _, _, rfl, g4, g5, g6, g7, g8, rfl⟩)
  refine ⟨.o (srcT t'), y3, y4, y5, y6, y7, y8, rfl, g3, g4, g5, g6, g7, g8, ?_⟩
  unfold m_law_L2
  generalize m_law_L1 = B at *
  generalize srcT t = S0 at *
  generalize srcT t' = S1 at *
  simp [ht, setO, canSet_fr, f2, hb3, hw]
theorem cut_toN {α : Type} (xs : List α) (n : Nat) : cutL xs none (some (n : Int)) = xs.take n := by
  unfold cutL
  rw [HT.sIx_none, HT.sIx_nat, List.drop_zero, Nat.sub_zero]
  by_cases c : n ≤ xs.length
  · rw [show min n xs.length = n by omega]
  · rw [show min n xs.length = xs.length by omega, List.take_length, List.take_of_length_le (by omega)]
theorem seqN {A C : Ds} {e e1 : En} (h : A e = some (.nx e1)) : sSeq A C e = C e1 := by
  unfold sSeq
  rw [h]
theorem fin_many (n : Int) : ∃ (m : Int) (t' : Int × Int × Int), ∃ t, F__law_source_of [.int n] = some (srcT t) ∧ F__law_next (srcT t) [.int 30] = some (.int m, srcT t') ∧ 0 ≤ m ∧ m < 30 := by
  obtain ⟨t, ht⟩ := e_src n
  obtain ⟨m, t', h1, h2, h3⟩ := e_nextT t (m := 30) (by decide) (by decide)
  exact ⟨m, t', t, ht, h1, h2, h3⟩
theorem fl_rep (x : Int) (n : Nat) : (List.replicate n [PyData.int x]).flatten = (List.replicate n x).map .int := by
  induction n with
  | zero => rfl
  | succ n ih =>
    rw [List.replicate_succ, List.replicate_succ, List.flatten_cons, ih]
    rfl
theorem law_true (ns : List Int) (hns : ns.length ≤ 63) : F_law [.list (ns.map .int)] = some (.bool true) := by
  have hcut : slD (.list (ns.map .int)) none (some 6) = some (.list ((ns.take 6).map .int)) := by
    show some (PyData.list (cutL _ none (some 6))) = _
    have := cut_toN (ns.map PyData.int) 6
    rw [show ((6 : Nat) : Int) = 6 from rfl] at this
    rw [this, List.map_take]
  have hadd : addD (.list ((ns.take 6).map .int)) (.list [.int 0]) = some (.list ((ns.take 6 ++ [0]).map .int)) := by
    show (if ((ns.take 6).map PyData.int).length + 1 ≤ 100000 then _ else none) = _
    rw [if_pos (by rw [List.length_map, List.length_take]; omega), List.map_append]
    rfl
  obtain ⟨e2, h2, x1, x2, x3, x4, x5, x6, x7, x8, f1, f2, f3, f4, f5, f6, f7, f8, rfl⟩ := runFor_all (g := dName 1) (b := m_law_L2) (fun e => ∃ x1 x2 x3 x4 x5 x6 x7 x8, frB x1 = true ∧ frB x2 = true ∧ frB x3 = true ∧ frB x4 = true ∧ frB x5 = true ∧ frB x6 = true ∧ frB x7 = true ∧ frB x8 = true ∧ e = [.d (.list (ns.map .int)), x1, x2, x3, x4, x5, x6, x7, x8, .no, .no]) (ds := (ns.take 6 ++ [0]).map .int) (e := [.d (.list (ns.map .int)), .no, .no, .no, .no, .no, .no, .no, .no, .no, .no]) ⟨_, _, _, _, _, _, _, _, rfl, rfl, rfl, rfl, rfl, rfl, rfl, rfl, rfl⟩ (by
    rintro d hd e ⟨x1, x2, x3, x4, x5, x6, x7, x8, f1, f2, f3, f4, f5, f6, f7, f8, rfl⟩
    obtain ⟨n, hn, rfl⟩ := List.mem_map.mp hd
    obtain ⟨y2, y3, y4, y5, y6, y7, y8, g2, g3, g4, g5, g6, g7, g8, hc⟩ := law_cell (sd := .list (ns.map .int)) (x9 := .no) f2 f3 f4 f5 f6 f7 f8 n
    exact ⟨[.d (.list (ns.map .int)), .d (.int n), x2, x3, x4, x5, x6, x7, x8, .no, .no], _, by simp [setD, canSet_fr, f1], .inl hc, _, _, _, _, _, _, _, _, rfl, g2, g3, g4, g5, g6, g7, g8, rfl⟩)
  -- the number of many coins
  have hfirst : ∃ n0 : Int, dIf (dTest (dOp neD (dVar 0) (dFz (dLst (dK []))))) (dOp ixD (dVar 0) (dK (.int 0))) (dK (.int 3)) [.d (.list (ns.map .int)), x1, x2, x3, x4, x5, x6, x7, x8, .no, .no] = some (.int n0, [.d (.list (ns.map .int)), x1, x2, x3, x4, x5, x6, x7, x8, .no, .no]) := by
    cases ns with
    | nil =>
      have hne : neD (.list []) (.list []) = some (.bool false) := neE_same 1 rfl (by decide)
      exact ⟨3, by simp [small, hne]⟩
    | cons n ns =>
      have hne : neD (.list ((n :: ns).map .int)) (.list []) = some (.bool true) := by
        unfold neD
        rw [okE_shaped (n := 1) (show okE 1 (.list ((n :: ns).map .int)) = true from okE_ints 0 (n :: ns)) (by decide), show SeqAt.shaped (.list []) = true from rfl]
        rfl
      have hix : ixD (.list ((n :: ns).map .int)) (.int 0) = some (.int n) := at_0 ..
      generalize (n :: ns).map PyData.int = S at *
      exact ⟨n, by simp [small, hne, hix]⟩
  obtain ⟨n0, hf⟩ := hfirst
  obtain ⟨m, t', t, hs, hn, m0, m1⟩ := fin_many n0
  obtain ⟨k, hk⟩ : ∃ k : Nat, (k : Int) = 1000 - m := ⟨(1000 - m).toNat, by omega⟩
  have hk1 : k ≤ 1000 := by omega
  have hk2 : 0 < k := by omega
  have ht0 : mulD (.tuple [.int 0]) (.int (1000 - m)) = some (.tuple ((List.replicate k 0).map .int)) := by
    show (if [PyData.int 0] ≠ [] ∧ 0 ≤ 1000 - m ∧ 1000 - m ≤ 1000 ∧ [PyData.int 0].length ≤ 1000 then some (PyData.tuple (List.replicate (1000 - m).toNat [PyData.int 0]).flatten) else none) = _
    rw [if_pos ⟨by simp, by omega, by omega, by simp⟩, show (1000 - m).toNat = k by omega, fl_rep]
  have ht1 : List.replicate (1000 - m).toNat (PyData.int 1) = (List.replicate k 1).map .int := by
    rw [show (1000 - m).toNat = k by omega, List.map_replicate]
  have hcond : -1000 ≤ 1000 - m ∧ 1000 - m ≤ 1000 := by omega
  have hz01 : ∀ c ∈ List.replicate k (0 : Int), c = 0 ∨ c = 1 := fun c hc => .inl (List.eq_of_mem_replicate hc)
  have hH : F_heights_of [.tuple ((List.replicate k 0).map .int), .list [.str "free"]] = some (.list ((List.replicate k 1).map .int)) :=
    f_hof (b := false) (b2 := true) (r := .free) hz01 trivial (by rw [List.length_replicate]; omega) (fun z => by cases z.2) (by
      rw [List.length_replicate]
      exact rd_free k (2 * k + 1) 0 (by omega))
  have hC : F_coins_of [.list ((List.replicate k 1).map .int), .tuple [.str "cap", .int 2]] = some (.tuple ((List.replicate k 0).map .int)) := by
    have := f_of (b := true) (b2 := false) (ns := List.replicate k 1) (r := .cap 2) (fun c hc => by have := List.eq_of_mem_replicate hc; omega) ⟨by decide, by decide⟩ (by rw [List.length_replicate]; exact hk1)
    rw [due_cap2] at this
    exact this
  have hC0 : F_coins_of [.tuple [], .tuple [.str "step"]] = some (.tuple []) := f_of (b := false) (b2 := false) (ns := []) (r := .step) (fun _ h => nomatch h) trivial (by decide)
  have hH0 : F_heights_of [.list [], .tuple [.str "cap", .int 1]] = some (.list []) := f_hof (b := true) (b2 := false) (cs := []) (l := []) (r := .cap 1) (fun _ h => nomatch h) ⟨by decide, by decide⟩ (by decide) (fun z => z.1 rfl) rfl
  have hn1 : neD (.list ((List.replicate k 1).map .int)) (.list ((List.replicate k 1).map .int)) = some (.bool false) := neE_same 1 (okE_ints 0 _) (by decide)
  have hn2 : neD (.tuple ((List.replicate k 0).map .int)) (.tuple ((List.replicate k 0).map .int)) = some (.bool false) := neE_same 1 (okE_ints 0 _) (by decide)
  have he1 : eqD (.tuple []) (.tuple []) = some (.bool true) := eqE_same 1 rfl (by decide)
  have he2 : eqD (.list []) (.list []) = some (.bool true) := eqE_same 1 rfl (by decide)
  unfold F_law fnD m_law
  generalize m_law_L2 = B2 at *
  generalize hS4 : (ns.take 6 ++ [0]).map PyData.int = S4 at *
  generalize (ns.take 6).map PyData.int = S0 at *
  generalize ns.map PyData.int = S at *
  generalize (List.replicate k 1).map PyData.int = ONE at *
  generalize (List.replicate k 0).map PyData.int = ZERO at *
  generalize srcT t = T0 at *
  generalize srcT t' = T1 at *
  have i0 : init [.list S] 10 = [.d (.list S), .no, .no, .no, .no, .no, .no, .no, .no, .no, .no] := rfl
  have a2 : sFor (dItems (dOp addD (dSl (dVar 0) (dK none) (dPart (dK (.int 6)))) (dFz (dLst (dCons (dK (.int 0)) (dK [])))))) (dName 1) B2 [.d (.list S), .no, .no, .no, .no, .no, .no, .no, .no, .no, .no] = some (.nx [.d (.list S), x1, x2, x3, x4, x5, x6, x7, x8, .no, .no]) := by
    simp [dSl, hcut, small, hadd, h2]
  rw [i0, seqN a2]
  generalize hIF : dIf (dTest (dOp neD (dVar 0) (dFz (dLst (dK []))))) (dOp ixD (dVar 0) (dK (.int 0))) (dK (.int 3)) = IFF at *
  simp [dCallN, hf, hs, hn, setD, canSet, small, ht0, hH, dRep, hcond.1, hcond.2, ht1, hn1, hC, hn2, hC0, he1, hH0, he2, retD]
end Tk
end

section
set_option Elab.async false
set_option linter.all false
set_option maxRecDepth 100000
set_option maxHeartbeats 0
/-! k04: what the top leaves. -/
namespace Tk
open PySem PySem.Spec PyProof.Rows L2 Evl Tb Fd
def dd_is_whole : He.DefD := ⟨("is_whole", none), "is_whole", "is_whole", defArgs s_is_whole, defBody s_is_whole, defScope s_is_whole, [], []⟩
def dd_is_row : He.DefD := ⟨("is_row", none), "is_row", "is_row", defArgs s_is_row, defBody s_is_row, defScope s_is_row, [], []⟩
def dd_first_wrong : He.DefD := ⟨("first_wrong", none), "first_wrong", "first_wrong", defArgs s_first_wrong, defBody s_first_wrong, defScope s_first_wrong, [], []⟩
def dd_check_number : He.DefD := ⟨("check_number", none), "check_number", "check_number", defArgs s_check_number, defBody s_check_number, defScope s_check_number, [.non], []⟩
def dd_is_coin : He.DefD := ⟨("is_coin", none), "is_coin", "is_coin", defArgs s_is_coin, defBody s_is_coin, defScope s_is_coin, [], []⟩
def dd__is_height : He.DefD := ⟨("_is_height", none), "_is_height", "_is_height", defArgs s_is_height, defBody s_is_height, defScope s_is_height, [], []⟩
def dd_is_rule : He.DefD := ⟨("is_rule", none), "is_rule", "is_rule", defArgs s_is_rule, defBody s_is_rule, defScope s_is_rule, [], []⟩
def dd_check_rule : He.DefD := ⟨("check_rule", none), "check_rule", "check_rule", defArgs s_check_rule, defBody s_check_rule, defScope s_check_rule, [], []⟩
def dd_limit_of : He.DefD := ⟨("limit_of", none), "limit_of", "limit_of", defArgs s_limit_of, defBody s_limit_of, defScope s_limit_of, [], []⟩
def dd_most : He.DefD := ⟨("most", none), "most", "most", defArgs s_most, defBody s_most, defScope s_most, [], []⟩
def dd_coins_within : He.DefD := ⟨("coins_within", none), "coins_within", "coins_within", defArgs s_coins_within, defBody s_coins_within, defScope s_coins_within, [], []⟩
def dd_coins_for : He.DefD := ⟨("coins_for", none), "coins_for", "coins_for", defArgs s_coins_for, defBody s_coins_for, defScope s_coins_for, [], []⟩
def dd_check_coins : He.DefD := ⟨("check_coins", none), "check_coins", "check_coins", defArgs s_check_coins, defBody s_check_coins, defScope s_check_coins, [], []⟩
def dd_check_heights : He.DefD := ⟨("check_heights", none), "check_heights", "check_heights", defArgs s_check_heights, defBody s_check_heights, defScope s_check_heights, [], []⟩
def dd_coins_of : He.DefD := ⟨("coins_of", none), "coins_of", "coins_of", defArgs s_coins_of, defBody s_coins_of, defScope s_coins_of, [], []⟩
def dd_grown : He.DefD := ⟨("grown", none), "grown", "grown", defArgs s_grown, defBody s_grown, defScope s_grown, [], []⟩
def dd_heights_of : He.DefD := ⟨("heights_of", none), "heights_of", "heights_of", defArgs s_heights_of, defBody s_heights_of, defScope s_heights_of, [], []⟩
def dd_toss : He.DefD := ⟨("toss", none), "toss", "toss", defArgs s_toss, defBody s_toss, defScope s_toss, [], []⟩
def dd__law_end : He.DefD := ⟨("_law_end", none), "_law_end", "_law_end", defArgs s_law_end, defBody s_law_end, defScope s_law_end, [], []⟩
def dd__law_coins : He.DefD := ⟨("_law_coins", none), "_law_coins", "_law_coins", defArgs s_law_coins, defBody s_law_coins, defScope s_law_coins, [], []⟩
def dd__law_due : He.DefD := ⟨("_law_due", none), "_law_due", "_law_due", defArgs s_law_due, defBody s_law_due, defScope s_law_due, [], []⟩
def dd__law_bare : He.DefD := ⟨("_law_bare", none), "_law_bare", "_law_bare", defArgs s_law_bare, defBody s_law_bare, defScope s_law_bare, [], []⟩
def dd__law_read : He.DefD := ⟨("_law_read", none), "_law_read", "_law_read", defArgs s_law_read, defBody s_law_read, defScope s_law_read, [], []⟩
def dd__law_said : He.DefD := ⟨("_law_said", none), "_law_said", "_law_said", defArgs s_law_said, defBody s_law_said, defScope s_law_said, [], []⟩
def dd__law_source_of : He.DefD := ⟨("_law_source_of", none), "_law_source_of", "_law_source_of", defArgs s__law_source_of, defBody s__law_source_of, defScope s__law_source_of, [], []⟩
def dd__law_next : He.DefD := ⟨("_law_next", none), "_law_next", "_law_next", defArgs s__law_next, defBody s__law_next, defScope s__law_next, [], []⟩
def dd__law_one : He.DefD := ⟨("_law_one", none), "_law_one", "_law_one", defArgs s__law_one, defBody s__law_one, defScope s__law_one, [], []⟩
def dd__law_rule : He.DefD := ⟨("_law_rule", none), "_law_rule", "_law_rule", defArgs s__law_rule, defBody s__law_rule, defScope s__law_rule, [], []⟩
def dd__law_heights : He.DefD := ⟨("_law_heights", none), "_law_heights", "_law_heights", defArgs s__law_heights, defBody s__law_heights, defScope s__law_heights, [], []⟩
def dd__law_single_right : He.DefD := ⟨("_law_single_right", none), "_law_single_right", "_law_single_right", defArgs s__law_single_right, defBody s__law_single_right, defScope s__law_single_right, [], []⟩
def dd_law : He.DefD := ⟨("law", none), "law", "law", defArgs s_law, defBody s_law, defScope s_law, [], []⟩
def dd_Short___init__ : He.DefD := ⟨("Short", some "__init__"), "__init__", "Short.__init__", defArgs s_Short___init, defBody s_Short___init, defScope s_Short___init, [], []⟩
def dd_Spare___init__ : He.DefD := ⟨("Spare", some "__init__"), "__init__", "Spare.__init__", defArgs s_Spare___init, defBody s_Spare___init, defScope s_Spare___init, [], []⟩
def defsD : List He.DefD := [dd_is_whole, dd_is_row, dd_first_wrong, dd_check_number, dd_is_coin, dd__is_height, dd_is_rule, dd_check_rule, dd_limit_of, dd_most, dd_coins_within, dd_coins_for, dd_check_coins, dd_check_heights, dd_coins_of, dd_grown, dd_heights_of, dd_toss, dd__law_end, dd__law_coins, dd__law_due, dd__law_bare, dd__law_read, dd__law_said, dd__law_source_of, dd__law_next, dd__law_one, dd__law_rule, dd__law_heights, dd__law_single_right, dd_law, dd_Short___init__, dd_Spare___init__]
def faD : List He.Fa := [.glo "is_whole", .glo "is_row", .glo "first_wrong", .glo "check_number", .glo "is_coin", .glo "_is_height", .glo "is_rule", .glo "check_rule", .glo "limit_of", .glo "most", .glo "coins_within", .glo "coins_for", .glo "check_coins", .glo "check_heights", .glo "coins_of", .glo "grown", .glo "heights_of", .glo "toss", .glo "_law_end", .glo "_law_coins", .glo "_law_due", .glo "_law_bare", .glo "_law_read", .glo "_law_said", .glo "_law_source_of", .glo "_law_next", .glo "_law_one", .glo "_law_rule", .glo "_law_heights", .glo "_law_single_right", .glo "law", .free "int", .free "bool", .free "str", .free "list", .free "tuple", .free "dict", .free "set", .free "len", .free "max", .free "min", .free "abs", .free "sum", .free "all", .free "any", .free "repr", .free "sorted", .free "zip", .free "isinstance", .free "enumerate", .free "reversed", .free "range", .int "GREATEST_LIMIT" 64, .glo "Short", .glo "Spare", .exm "Short" "Short" true, .exm "Spare" "Short" false, .exm "Spare" "Spare" true]
abbrev RR : PySem.W.OpenRow := PySem.W.OpenLaw.row PySem.Challenge.rw_tosslanes_k04_whole_coins_and_heights
def tsD : List (Str × List Str) := []
def exD : List (Str × Str) := [("Short", "index"), ("Spare", "index")]
abbrev hkD : PySem.W.Hook := Fd.hookE 4 faD defsD tsD exD
def obD (s : PySem.W.SharedT) : Fd.AlT := Fd.obsEG 4 faD defsD tsD exD (HandSHeadRun.getT s)
theorem obD_eq (s : PySem.W.SharedT) : obD s = hkD.obs s.abs := Fd.obsEG_eq (HandSHeadRun.getT_eq s)
def namesD : List PySem.Str := (["LaneError", "NoNumber", "NoRule", "NoCoins", "Short", "Spare", "NoHeights", "is_whole", "is_row", "first_wrong", "check_number", "GREATEST_LIMIT", "most", "toss", "coins_for", "coins_of", "heights_of", "is_coin", "is_rule", "check_coins", "check_heights", "check_rule", "limit_of", "grown", "coins_within", "_is_height", "_law_source_of", "_law_next", "_law_one", "_law_rule"] : List PySem.Str) ++ (["_law_end", "_law_coins", "_law_heights", "_law_due", "_law_bare", "_law_read", "_law_said", "_law_single_right"] : List PySem.Str)
theorem runD (w : World) : HandSHeadRun.RunEq RR (PySem.W.view RR.prog [42]) hkD obD 8000 namesD w := by
  intro os
  kernel_rfl
end Tk
end

section
set_option Elab.async false
set_option linter.all false
set_option maxRecDepth 100000
set_option maxHeartbeats 0
/-! The end: what the top leaves, and the law. -/
namespace Tk
open PySem PySem.Spec PyProof.Rows L2 Evl Tb Fd
theorem factsD {P : Program} {w : World} {K : PySem.W.Frag} {h : Heap} {mg : Str → Option Value} {f : Addr} (X : K.In h) (G : h.Ns mainGlobals mg) (hfa : mg ("law" : Str) = some (.ref f)) (c0 : Fd.obsE faD defsD tsD exD K = (He.valD defsD, true)) :
    ∃ fd : FuncData, (∀ (s : Shared) (v : Value), BindsTo s fd ⟨[v], []⟩ [("_law_script", v)]) ∧ ∀ base : Heap, K.In base → base.Ns mainGlobals mg → FnOk P w K mg base CX0 8 f fd ["_law_script"] (spLaw K) := by
  have c := Fd.saysT_D (saysE_T c0)
  obtain ⟨fd0, F0⟩ := c.def_ 0 (d := dd_is_whole) rfl
  have m0 := He.glo_ok X G (c.fact 0 (f := .glo "is_whole") rfl)
  obtain ⟨fd1, F1⟩ := c.def_ 1 (d := dd_is_row) rfl
  have m1 := He.glo_ok X G (c.fact 1 (f := .glo "is_row") rfl)
  obtain ⟨fd2, F2⟩ := c.def_ 2 (d := dd_first_wrong) rfl
  have m2 := He.glo_ok X G (c.fact 2 (f := .glo "first_wrong") rfl)
  obtain ⟨fd3, F3⟩ := c.def_ 3 (d := dd_check_number) rfl
  have m3 := He.glo_ok X G (c.fact 3 (f := .glo "check_number") rfl)
  obtain ⟨fd4, F4⟩ := c.def_ 4 (d := dd_is_coin) rfl
  have m4 := He.glo_ok X G (c.fact 4 (f := .glo "is_coin") rfl)
  obtain ⟨fd5, F5⟩ := c.def_ 5 (d := dd__is_height) rfl
  have m5 := He.glo_ok X G (c.fact 5 (f := .glo "_is_height") rfl)
  obtain ⟨fd6, F6⟩ := c.def_ 6 (d := dd_is_rule) rfl
  have m6 := He.glo_ok X G (c.fact 6 (f := .glo "is_rule") rfl)
  obtain ⟨fd7, F7⟩ := c.def_ 7 (d := dd_check_rule) rfl
  have m7 := He.glo_ok X G (c.fact 7 (f := .glo "check_rule") rfl)
  obtain ⟨fd8, F8⟩ := c.def_ 8 (d := dd_limit_of) rfl
  have m8 := He.glo_ok X G (c.fact 8 (f := .glo "limit_of") rfl)
  obtain ⟨fd9, F9⟩ := c.def_ 9 (d := dd_most) rfl
  have m9 := He.glo_ok X G (c.fact 9 (f := .glo "most") rfl)
  obtain ⟨fd10, F10⟩ := c.def_ 10 (d := dd_coins_within) rfl
  have m10 := He.glo_ok X G (c.fact 10 (f := .glo "coins_within") rfl)
  obtain ⟨fd11, F11⟩ := c.def_ 11 (d := dd_coins_for) rfl
  have m11 := He.glo_ok X G (c.fact 11 (f := .glo "coins_for") rfl)
  obtain ⟨fd12, F12⟩ := c.def_ 12 (d := dd_check_coins) rfl
  have m12 := He.glo_ok X G (c.fact 12 (f := .glo "check_coins") rfl)
  obtain ⟨fd13, F13⟩ := c.def_ 13 (d := dd_check_heights) rfl
  have m13 := He.glo_ok X G (c.fact 13 (f := .glo "check_heights") rfl)
  obtain ⟨fd14, F14⟩ := c.def_ 14 (d := dd_coins_of) rfl
  have m14 := He.glo_ok X G (c.fact 14 (f := .glo "coins_of") rfl)
  obtain ⟨fd15, F15⟩ := c.def_ 15 (d := dd_grown) rfl
  have m15 := He.glo_ok X G (c.fact 15 (f := .glo "grown") rfl)
  obtain ⟨fd16, F16⟩ := c.def_ 16 (d := dd_heights_of) rfl
  have m16 := He.glo_ok X G (c.fact 16 (f := .glo "heights_of") rfl)
  obtain ⟨fd17, F17⟩ := c.def_ 17 (d := dd_toss) rfl
  have m17 := He.glo_ok X G (c.fact 17 (f := .glo "toss") rfl)
  obtain ⟨fd18, F18⟩ := c.def_ 18 (d := dd__law_end) rfl
  have m18 := He.glo_ok X G (c.fact 18 (f := .glo "_law_end") rfl)
  obtain ⟨fd19, F19⟩ := c.def_ 19 (d := dd__law_coins) rfl
  have m19 := He.glo_ok X G (c.fact 19 (f := .glo "_law_coins") rfl)
  obtain ⟨fd20, F20⟩ := c.def_ 20 (d := dd__law_due) rfl
  have m20 := He.glo_ok X G (c.fact 20 (f := .glo "_law_due") rfl)
  obtain ⟨fd21, F21⟩ := c.def_ 21 (d := dd__law_bare) rfl
  have m21 := He.glo_ok X G (c.fact 21 (f := .glo "_law_bare") rfl)
  obtain ⟨fd22, F22⟩ := c.def_ 22 (d := dd__law_read) rfl
  have m22 := He.glo_ok X G (c.fact 22 (f := .glo "_law_read") rfl)
  obtain ⟨fd23, F23⟩ := c.def_ 23 (d := dd__law_said) rfl
  have m23 := He.glo_ok X G (c.fact 23 (f := .glo "_law_said") rfl)
  obtain ⟨fd24, F24⟩ := c.def_ 24 (d := dd__law_source_of) rfl
  have m24 := He.glo_ok X G (c.fact 24 (f := .glo "_law_source_of") rfl)
  obtain ⟨fd25, F25⟩ := c.def_ 25 (d := dd__law_next) rfl
  have m25 := He.glo_ok X G (c.fact 25 (f := .glo "_law_next") rfl)
  obtain ⟨fd26, F26⟩ := c.def_ 26 (d := dd__law_one) rfl
  have m26 := He.glo_ok X G (c.fact 26 (f := .glo "_law_one") rfl)
  obtain ⟨fd27, F27⟩ := c.def_ 27 (d := dd__law_rule) rfl
  have m27 := He.glo_ok X G (c.fact 27 (f := .glo "_law_rule") rfl)
  obtain ⟨fd28, F28⟩ := c.def_ 28 (d := dd__law_heights) rfl
  have m28 := He.glo_ok X G (c.fact 28 (f := .glo "_law_heights") rfl)
  obtain ⟨fd29, F29⟩ := c.def_ 29 (d := dd__law_single_right) rfl
  have m29 := He.glo_ok X G (c.fact 29 (f := .glo "_law_single_right") rfl)
  obtain ⟨fd30, F30⟩ := c.def_ 30 (d := dd_law) rfl
  obtain ⟨fd31, F31⟩ := c.def_ 31 (d := dd_Short___init__) rfl
  obtain ⟨fd32, F32⟩ := c.def_ 32 (d := dd_Spare___init__) rfl
  have e := hfa.symm.trans (He.glo_ok X G (c.fact 30 (f := .glo "law") rfl))
  cases e
  have bl : Bm mg := ⟨He.free_ok X G (c.fact 31 (f := .free "int") rfl), He.free_ok X G (c.fact 32 (f := .free "bool") rfl), He.free_ok X G (c.fact 33 (f := .free "str") rfl), He.free_ok X G (c.fact 34 (f := .free "list") rfl), He.free_ok X G (c.fact 35 (f := .free "tuple") rfl), He.free_ok X G (c.fact 36 (f := .free "dict") rfl), He.free_ok X G (c.fact 37 (f := .free "set") rfl), He.free_ok X G (c.fact 38 (f := .free "len") rfl), He.free_ok X G (c.fact 39 (f := .free "max") rfl), He.free_ok X G (c.fact 40 (f := .free "min") rfl), He.free_ok X G (c.fact 41 (f := .free "abs") rfl), He.free_ok X G (c.fact 42 (f := .free "sum") rfl), He.free_ok X G (c.fact 43 (f := .free "all") rfl), He.free_ok X G (c.fact 44 (f := .free "any") rfl), He.free_ok X G (c.fact 45 (f := .free "repr") rfl), He.free_ok X G (c.fact 46 (f := .free "sorted") rfl), He.free_ok X G (c.fact 47 (f := .free "zip") rfl), He.free_ok X G (c.fact 48 (f := .free "isinstance") rfl), He.free_ok X G (c.fact 49 (f := .free "enumerate") rfl), He.free_ok X G (c.fact 50 (f := .free "reversed") rfl), He.free_ok X G (c.fact 51 (f := .free "range") rfl)⟩
  have bl0 : Bl mg := ⟨bl.int, bl.bool, bl.str, bl.list, bl.tuple, bl.dict, bl.len, bl.max, bl.min, bl.isinstance, bl.enumerate, bl.reversed, bl.range⟩
  obtain ⟨tGL, gGL⟩ := He.int_ok X G (c.fact 52 (f := .int "GREATEST_LIMIT" 64) rfl)
  have mS := He.glo_ok X G (c.fact 53 (f := .glo "Short") rfl)
  have mP := He.glo_ok X G (c.fact 54 (f := .glo "Spare") rfl)
  have e1 := He.exm_ok (c.fact 55 (f := .exm "Short" "Short" true) rfl)
  have e2 := He.exm_ok (c.fact 56 (f := .exm "Spare" "Short" false) rfl)
  have e3 := He.exm_ok (c.fact 57 (f := .exm "Spare" "Spare" true) rfl)
  have xS := saysE_x c0 0 (x := "Short") (f := "index") rfl
  have xP := saysE_x c0 1 (x := "Spare") (f := "index") rfl
  have b := FunD.bindsA (ps := ["_law_script"]) F30 fun _ _ _ _ _ _ us hl => match us, hl with | [_], _ => rfl
  refine ⟨fd30, fun s v => b s [v] rfl, fun base _ _ => ?_⟩
  have nX : NoY (L2.CX P w) := noYX
  have A0 := H_is_whole (P := P) (w := w) (base := base) (CX := L2.CX P w) bl0 F0 m0
  have Z0 := H_is_whole (P := P) (w := w) (base := base) (CX := L2.CX0) bl0 F0 m0
  have A1 := H_is_row (P := P) (w := w) (base := base) (CX := L2.CX P w) bl0 F1 m1
  have Z4 := H_is_coin (P := P) (w := w) (base := base) (CX := L2.CX0) Tk.noY0 Z0 F4 m4
  have Z5 := H_is_height (P := P) (w := w) (base := base) (CX := L2.CX0) Tk.noY0 Z0 F5 m5
  have ne45 := fun_ne F4 F5 (by decide +kernel)
  have hA := twoS_ok (p := fun f sp => Held P w K mg base 2 f sp) (held_of Z4 m4) (held_of Z5 m5)
  have A2 := H_first_wrong (P := P) (w := w) (base := base) (CX := L2.CX P w) bl0 nX hA A1 F2 m2
  have A3 := H_check_number (P := P) (w := w) (base := base) (CX := L2.CX P w) nX A0 F3 m3
  have A33 := H_check_number3 (P := P) (w := w) (base := base) (CX := L2.CX P w) nX A0 F3 m3
  have A6 := H_is_rule (P := P) (w := w) (base := base) (CX := L2.CX P w) bl0 nX gGL A0 A1 F6 m6
  have A7 := H_check_rule (P := P) (w := w) (base := base) (CX := L2.CX P w) nX A6 F7 m7
  have A8 := H_limit_of (P := P) (w := w) (base := base) (CX := L2.CX P w) bl0 F8 m8
  have A9 := H_most (P := P) (w := w) (base := base) (CX := L2.CX P w) nX A7 A3 A8 F9 m9
  have A10 := H_coins_within (P := P) (w := w) (base := base) (CX := L2.CX P w) F10 m10
  have A11 := H_coins_for (P := P) (w := w) (base := base) (CX := L2.CX P w) nX A3 A9 A10 F11 m11
  have A12 := H_check_coins (P := P) (w := w) (base := base) (CX := L2.CX P w) nX A2 m4 twoS_1 F12 m12
  have A13 := H_check_heights (P := P) (w := w) (base := base) (CX := L2.CX P w) nX A2 m5 (twoS_2 ne45) F13 m13
  have A14 := H_coins_of (P := P) (w := w) (base := base) (CX := L2.CX P w) bl0 nX A13 A7 A8 A10 F14 m14
  have XS : ExK P w K mg base (L2.CX P w) "Short" "index" (He.ga K "Short") (He.fAd K ("Short", some "__init__")) fd31 := ⟨xS.T, xS.no, xS.iC, xS.tI, (H_Short_init F31).1, (H_Short_init (P := P) (w := w) (mg := mg) (base := base) (CX := L2.CX P w) F31).2, mS⟩
  have XP : ExK P w K mg base (L2.CX P w) "Spare" "index" (He.ga K "Spare") (He.fAd K ("Spare", some "__init__")) fd32 := ⟨xP.T, xP.no, xP.iC, xP.tI, (H_Spare_init F32).1, (H_Spare_init (P := P) (w := w) (mg := mg) (base := base) (CX := L2.CX P w) F32).2, mP⟩
  have A15 := H_grown (P := P) (w := w) (base := base) bl0 XS F15 m15
  have A17 := H_toss (P := P) (w := w) (base := base) bl0 A12 A33 A9 A15 F17 m17
  have A16 := H_heights_of (P := P) (w := w) (base := base) bl0 XP A12 A7 A8 A15 F16 m16
  have A18 := H_law_end (P := P) (w := w) (base := base) (CX := L2.CX0) bl0 F18 m18
  have A19 := H_law_coins (P := P) (w := w) (base := base) (CX := L2.CX0) bl0 F19 m19
  have A20 := H_law_due (P := P) (w := w) (base := base) (CX := L2.CX0) bl0 Tk.noY0 A18 A19 F20 m20
  have A21 := H_law_bare (P := P) (w := w) (base := base) (CX := L2.CX0) bl0 Tk.noY0 A20 F21 m21
  have A22 := H_law_read (P := P) (w := w) (base := base) (CX := L2.CX0) bl0 Tk.noY0 A18 F22 m22
  have A23 := H_law_said (P := P) (w := w) (base := base) (CX := L2.CX0) A16 mS mP xS.xf xP.xf xS.no xP.no e1 e2 e3 F23 m23
  have B18 : Has P w K mg base L2.CX0 "_law_end" 1 ["_law_rule_here", "_law_high"] [] (spF K 2 F__law_end) := has_FR A18 (by decide)
  have B19 : Has P w K mg base L2.CX0 "_law_coins" 1 ["_law_height", "_law_end_here"] [] (spF K 2 F__law_coins) := has_FR A19 (by decide)
  have B20 : Has P w K mg base L2.CX0 "_law_due" 2 ["_law_row_so", "_law_rule_here"] [] (spF K 2 F__law_due) := has_FR A20 (by decide)
  have B21 : Has P w K mg base L2.CX0 "_law_bare" 3 ["_law_row_so", "_law_rule_here"] [] (spF K 2 F__law_bare) := has_FR A21 (by decide)
  have B22 : Has P w K mg base L2.CX0 "_law_read" 2 ["_law_coins_here", "_law_rule_here"] [] (spF K 2 F__law_read) := has_FR A22 (by decide)
  have B23 : Has P w K mg base L2.CX0 "_law_said" 7 ["_law_coins_here", "_law_rule_here"] [] (spF K 2 F__law_said) := has_FR A23 (by decide)
  have B9 : Has P w K mg base L2.CX0 "most" 4 ["rule", "top"] [] (spF K 2 F_most) := has_calm A9 (by decide) fun vs H Q E h => sp_FR vs H Q E0 h
  have B11 : Has P w K mg base L2.CX0 "coins_for" 5 ["height", "rule", "top"] [] (spF K 3 F_coins_for) := has_calm A11 (by decide) fun vs H Q E h => sp_FR vs H Q E0 h
  have B14 : Has P w K mg base L2.CX0 "coins_of" 5 ["heights", "rule"] [] (spF K 2 F_coins_of) := has_calm A14 (by decide) fun vs H Q E h => sp_FR vs H Q E0 h
  have B17 : Has P w K mg base L2.CX0 "toss" 5 ["coins", "at", "rule", "top"] [] (spF K 4 F_toss) := has_calm A17 (by decide) fun vs H Q E h => sp_FR vs H Q E0 h
  have B16 : Has P w K mg base L2.CX0 "heights_of" 5 ["coins", "rule"] [] (spF K 2 F_heights_of) := has_hof A16 (by decide)
  have D24 := H__law_source_of (P := P) (w := w) (base := base) (CX := L2.CX0) bl Fd.noY0 F24 m24
  have D25 := H__law_next (P := P) (w := w) (base := base) (CX := L2.CX0) bl Fd.noY0 F25 m25
  have D26 := H__law_one (P := P) (w := w) (base := base) (CX := L2.CX0) bl Fd.noY0 D25 F26 m26
  have D27 := H__law_rule (P := P) (w := w) (base := base) (CX := L2.CX0) bl Fd.noY0 D26 F27 m27
  have D28 := H__law_heights (P := P) (w := w) (base := base) (CX := L2.CX0) bl Fd.noY0 D25 B18 D26 F28 m28
  have D29 := H__law_single_right (P := P) (w := w) (base := base) (CX := L2.CX0) bl Fd.noY0 D26 B18 B9 B11 B19 D25 B17 F29 m29
  exact H_law law_true bl Fd.noY0 D24 D27 D28 B20 B14 B16 B21 D25 D26 B23 B22 D29 F30
end Tk
open PySem PySem.W PySem.Calls PyProof.Rows
theorem PySem.Challenge.cw_tosslanes_k04_whole_coins_and_heights_holds : PySem.Challenge.rw_tosslanes_k04_whole_coins_and_heights.Holds := by
  w_on; o_law
  refine HandSHeadRun.head_any (r := OpenLaw.row PySem.Challenge.rw_tosslanes_k04_whole_coins_and_heights) (q := view (OpenLaw.row PySem.Challenge.rw_tosslanes_k04_whole_coins_and_heights).prog [42]) (H := Tk.hkD) (ob := Tk.obD) (M := 8000) (loose := Tk.namesD) (d := HandSHeadRun.topDef (OpenLaw.row PySem.Challenge.rw_tosslanes_k04_whole_coins_and_heights).prog 42) (kwd := []) Tk.obD_eq
    (by kernel_rfl) (fun s => by kernel_rfl) Tk.runD (by kernel_rfl) (by kernel_rfl) (by kernel_rfl) (by rfl) (by first | assumption | decide +kernel) (by decide +kernel) ⟨rfl, rfl, rfl, rfl, rfl, by decide +kernel⟩ ?hw ?hc
  case hw => w_witness2
  case hc =>
    refine L2.walk_ofE (l := PySem.Challenge.rw_tosslanes_k04_whole_coins_and_heights) (n := 63) (k := 8) (x := "_law_script") (CX := L2.CX0) rfl (by decide) (by kernel_rfl) ⟨rfl, by decide, by decide⟩ ?F (fun _ _ _ _ z => z)
    intro w mg fa h Y G hmg0
    obtain ⟨K, KX, c⟩ := Y
    have hmg : mg ("law" : PySem.Str) = some (.ref fa) := by
      have e : (HandSHeadRun.topDef (OpenLaw.row PySem.Challenge.rw_tosslanes_k04_whole_coins_and_heights).prog 42).name = ("law" : PySem.Str) := by kernel_rfl
      rw [← e]
      exact hmg0
    obtain ⟨fd, hb, hF⟩ := Tk.factsD (P := (PySem.Challenge.rw_tosslanes_k04_whole_coins_and_heights).prog) (w := w) KX G hmg c
    exact ⟨K, fd, Fd.spLaw K, KX, hb, fun H a ns hl _ hS => ⟨a, ns, rfl, hS, hl, fun _ => rfl⟩, hF⟩
end
