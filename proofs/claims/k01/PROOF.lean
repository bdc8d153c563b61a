import PyProof.Rows.All
import Wide.All
import OpenK.AllK
import Wide.FinOn
import HandS.ForMost
import HandS.IsInst
import HandS.Wide
import HandS.Evl
import HandS.Rev
import HandS.Walk
import HandS.NoneIn
import HandS.Style
import HandS.Defaults
import KE.GoesEnumKw
import HandS.SortKw
import KE.DataMinMax
import KE.KDictPairs
import HandS.Conv
import HandS.TupMul
import HandS.TupAny
import HandS.CallLocal
import HandS.ExcInit
import HandS.ExcField
import HandS.TryMany
import HandS.WordsExc
import PySem.Challenge.RW_tosslanes_k01_towers_and_lanes
import HandS.Head0
import HandS.Head1
import HandS.Head2
import HandS.HeadEnd
import HandS.HeadHook1
import HandS.HeadHook2
section
set_option Elab.async false
set_option linter.all false
set_option maxRecDepth 100000
set_option maxHeartbeats 4000000
/-! Toss base 1: a def by its name (Has), data (Dp) carried along, what an expression gives as data (EvD), rows that are lists or tuples. -/
namespace Tb
open PySem PySem.Spec PyProof.Rows L2 Evl

/-! ### a def of the module, by its name -/
/-- CX lets nothing out that is wanted of nobody -/
def NoX (CX : CXT) : Prop := ∀ X : Cx, Passes CX X.nox E0
theorem noX0 : NoX CX0 := fun _ => pass0
structure Has (P : Program) (w : World) (K : PySem.W.Frag) (mg : Str → Option Value) (base : Heap) (CX : CXT) (x : Str) (k : Nat) (ps : List Str) (dvs : List V) (sp : Sp) : Prop where
  ex : ∃ (f : Addr) (fd : FuncData) (ds : List Value), FnOk P w K mg base CX k f fd ps sp ∧ mg x = some (.ref f) ∧ PySem.W.keepIn K (.ref f) = true ∧ Vals dvs ds ∧ Binds K fd ps ds
theorem pe_has {X : Cx} {CX : CXT} {x : Str} {p pos : Pos} {e : Expr} {es : List Expr} {k : Nat} {ps : List Str} {dvs : List V} {sp : Sp} {t : TA} {E : XK} (F : Has X.prog X.w X.K X.mg X.base CX x k ps dvs sp) (hr : Room k X.A) (hg : Gl X x)
    (ha : PA X (e :: es) t) (hx : Passes CX X E)
    (hd : (x == ("__debug__" : Str)) = false := by decide)
    (he : starEach (e :: es) X.env = (false, eval e X.env) :: starEach es X.env := by rfl) (hpl : (backTo pos (starEach es X.env)).any (·.1) = false := by rfl) : PE X (.Call (.Name x p) (e :: es) [] pos) (tCall sp dvs E t) := by
  obtain ⟨f, fd, ds, F, hm, hk, hv, hb⟩ := F.ex
  exact pe_call F hr hg hm hk hb hv hx ha hd he hpl
/-- a def behind the top, its name, its level -/
theorem has_of {P : Program} {w : World} {K : PySem.W.Frag} {mg : Str → Option Value} {base : Heap} {CX : CXT} {x qual : Str} {st : Stmt} {f : Addr} {fd : FuncData} {k : Nat} {ps : List Str} {sp : Sp}
    (F : FunD K x qual (defArgs st) (defBody st) (defScope st) [] [] f fd) (hm : mg x = some (.ref f)) (ok : FnOk P w K mg base CX k f fd ps sp)
    (h : ∀ (kV doc pm : Value) (an : Option Addr) (cdv ct : Value) (us : List Value), us.length = ps.length → bindArgs (PySem.W.fnOf x qual (defArgs st) (defBody st) (defScope st) .none kV doc pm an cdv ct) ⟨us, []⟩ = pure (ps.zip us)) :
    Has P w K mg base CX x k ps [] sp := by
  refine ⟨f, fd, [], ok, hm, F.kp, .nil, ?_⟩
  obtain ⟨oc, od, dV, kV, doc, pm, an, cdv, ct, osl, rfl, lk, hcd, hD, hK⟩ := F.ex
  rcases hD with ⟨_, rfl⟩ | ⟨e, _⟩
  · exact .all (h kV doc pm an cdv ct)
  · exact absurd rfl e

end Tb
namespace L2
open PySem PySem.Spec PyProof.Rows Evl
/-! ### data -/
section
variable {K : PySem.W.Frag} {H H' : Hp} {v : V} {vs : List V} {d : PyData} {ds : List PyData}
mutual
theorem dp_mono (e : Ex H H') : ∀ {v : V} {d : PyData}, Dp K H v d → Dp K H' v d
  | _, _, .non => .non
  | _, _, .bl b => .bl b
  | _, _, .int i => .int i
  | _, _, .str x => .str x
  | _, _, .lst h a => .lst (ex_l e h) (dpa_mono e a)
  | _, _, .tup h a => .tup (ex_t e h) (dpa_mono e a)
theorem dpa_mono (e : Ex H H') : ∀ {vs : List V} {ds : List PyData}, DpAll K H vs ds → DpAll K H' vs ds
  | _, _, .nil => .nil
  | _, _, .cons h a => .cons (dp_mono e h) (dpa_mono e a)
end
theorem Dp.int_of {i : Int} (h : Dp K H v (.int i)) : v = .int i := by cases h; rfl
theorem Dp.bl_of {b : Bool} (h : Dp K H v (.bool b)) : v = .bl b := by cases h; rfl
theorem Dp.non_of (h : Dp K H v .none) : v = .non := by cases h; rfl
theorem Dp.str_of {x : Str} (h : Dp K H v (.str x)) : v = .str x := by cases h; rfl
theorem Dp.tup_of (h : Dp K H v (.tuple ds)) : ∃ a xs, v = .ref a ∧ SqT K H a xs ∧ DpAll K H xs ds := by
  cases h with
  | tup h a => exact ⟨_, _, rfl, h, a⟩
theorem Dp.lst_of (h : Dp K H v (.list ds)) : ∃ a xs, v = .ref a ∧ SqL K H a xs ∧ DpAll K H xs ds := by
  cases h with
  | lst h a => exact ⟨_, _, rfl, h, a⟩
theorem DpAll.length : ∀ {vs : List V} {ds : List PyData}, DpAll K H vs ds → vs.length = ds.length
  | _, _, .nil => rfl
  | _, _, .cons _ a => by rw [List.length_cons, List.length_cons, DpAll.length a]
theorem DpAll.get : ∀ {vs : List V} {ds : List PyData} {i : Nat} {v : V}, DpAll K H vs ds → vs[i]? = some v → ∃ d, ds[i]? = some d ∧ Dp K H v d
  | _, _, i, v, .nil, h => by simp at h
  | _, _, 0, v, .cons r _, h => by simp at h; subst h; exact ⟨_, rfl, r⟩
  | _, _, i + 1, v, .cons _ a, h => by
    obtain ⟨d, h1, h2⟩ := DpAll.get (i := i) (v := v) a (by simpa using h)
    exact ⟨d, by simpa using h1, h2⟩
theorem DpAll.get' : ∀ {vs : List V} {ds : List PyData} {i : Nat} {d : PyData}, DpAll K H vs ds → ds[i]? = some d → ∃ v, vs[i]? = some v ∧ Dp K H v d
  | _, _, i, d, .nil, h => by simp at h
  | _, _, 0, d, .cons r _, h => by simp at h; subst h; exact ⟨_, rfl, r⟩
  | _, _, i + 1, d, .cons _ a, h => by
    obtain ⟨v, h1, h2⟩ := DpAll.get' (i := i) (d := d) a (by simpa using h)
    exact ⟨v, by simpa using h1, h2⟩
theorem DpAll.append : ∀ {vs ws : List V} {ds es : List PyData}, DpAll K H vs ds → DpAll K H ws es → DpAll K H (vs ++ ws) (ds ++ es)
  | _, _, _, _, .nil, b => b
  | _, _, _, _, .cons r a, b => .cons r (DpAll.append a b)
theorem DpAll.one (h : Dp K H v d) : DpAll K H [v] [d] := .cons h .nil
theorem DpAll.take : ∀ {vs : List V} {ds : List PyData} (n : Nat), DpAll K H vs ds → DpAll K H (vs.take n) (ds.take n)
  | _, _, 0, _ => .nil
  | _, _, _ + 1, .nil => .nil
  | _, _, n + 1, .cons r a => .cons r (DpAll.take n a)
theorem DpAll.drop : ∀ {vs : List V} {ds : List PyData} (n : Nat), DpAll K H vs ds → DpAll K H (vs.drop n) (ds.drop n)
  | _, _, 0, r => r
  | _, _, _ + 1, .nil => .nil
  | _, _, n + 1, .cons _ a => DpAll.drop n a
theorem DpAll.ints : ∀ {vs : List V} {ns : List Int}, DpAll K H vs (ns.map .int) → vs = ns.map V.int
  | _, [], .nil => rfl
  | _, n :: ns, .cons r a => by
    rw [Dp.int_of r, DpAll.ints a]
    rfl
theorem DpAll.of_ints : ∀ ns : List Int, DpAll K H (ns.map V.int) (ns.map .int)
  | [] => .nil
  | n :: ns => .cons (.int n) (DpAll.of_ints ns)

end
end L2
namespace Tb
open PySem PySem.Spec PyProof.Rows L2 Evl
section
variable {K : PySem.W.Frag} {H H' : Hp} {v : V} {vs : List V} {d : PyData} {ds : List PyData}
/-- a row: a list or a tuple -/
def rows (b : Bool) (ds : List PyData) : PyData := if b then .list ds else .tuple ds
def Row (K : PySem.W.Frag) (H : Hp) (a : Addr) (xs : List V) : Prop := SqL K H a xs ∨ SqT K H a xs
theorem row_mono (e : Ex H H') {a : Addr} {xs : List V} (h : Row K H a xs) : Row K H' a xs := h.elim (fun h => .inl (ex_l e h)) fun h => .inr (ex_t e h)
theorem row_of {b : Bool} (h : Dp K H v (rows b ds)) : ∃ a xs, v = .ref a ∧ Row K H a xs ∧ DpAll K H xs ds := by
  cases b with
  | true =>
    obtain ⟨a, xs, e, h, q⟩ := Dp.lst_of (show Dp K H v (.list ds) from h)
    exact ⟨a, xs, e, .inl h, q⟩
  | false =>
    obtain ⟨a, xs, e, h, q⟩ := Dp.tup_of (show Dp K H v (.tuple ds) from h)
    exact ⟨a, xs, e, .inr h, q⟩
end
end Tb
end

section
set_option Elab.async false
set_option linter.all false
set_option maxRecDepth 100000
set_option maxHeartbeats 4000000
/-! Toss base 2: what an expression gives as data. -/
namespace Tb
open PySem PySem.Spec PyProof.Rows L2 Evl

/-! ### growth: H is what is known for good, H1 the whole heap; behind a step G is known for good, H2 the whole heap; what stood in H1 and was not known for good is not in G -/
structure Gr (H H1 G H2 : Hp) : Prop where
  hg : Ex H G
  g2 : Ex G H2
  h12 : Ex H1 H2
  sep : ∀ b, H b = none → H1 b ≠ none → G b = none
theorem Gr.refl {H H1 : Hp} (e : Ex H H1) : Gr H H1 H H1 := ⟨Ex.refl H, e, Ex.refl H1, fun _ h _ => h⟩
theorem Gr.ex {H H1 H2 : Hp} (e : Ex H H1) (e2 : Ex H1 H2) : Gr H H1 H H2 := ⟨Ex.refl H, e.trans e2, e2, fun _ h _ => h⟩
theorem Gr.trans {H H1 G H2 G' H3 : Hp} (a : Gr H H1 G H2) (b : Gr G H2 G' H3) : Gr H H1 G' H3 :=
  ⟨a.hg.trans b.hg, b.g2, a.h12.trans b.h12, fun x h1 h2 => b.sep x (a.sep x h1 h2) fun z => by
    cases q : H1 x with
    | none => exact h2 q
    | some o =>
      rw [a.h12 x o q] at z
      cases z⟩
theorem Gr.new {H H1 : Hp} {p : Addr} {o : HO} (e : Ex H H1) (hp : H1 p = none) : Gr H H1 (upd H p o) (upd H1 p o) := by
  have hp0 := fresh_back e hp
  refine ⟨Ex.new hp0, fun b u q => ?_, Ex.new hp, fun b h1 h2 => ?_⟩
  · by_cases c : b = p
    · subst c
      rw [upd_same] at q ⊢
      exact q
    · rw [upd_ne c] at q ⊢
      exact e b u q
  · by_cases c : b = p
    · subst c
      exact absurd hp h2
    · rw [upd_ne c]
      exact h1
/-- a new object that may change later: it is not known for good -/
theorem Gr.mut {H H1 : Hp} {p : Addr} {o : HO} (e : Ex H H1) (hp : H1 p = none) : Gr H H1 H (upd H1 p o) := .ex e (Ex.new hp)
/-- both of two heaps that stand in a third -/
def both (A B : Hp) : Hp := fun b => match A b with
  | some o => some o
  | none => B b
theorem both_l (A B : Hp) : Ex A (both A B) := fun b o h => by
  unfold both
  rw [h]
theorem both_r {A B C : Hp} (a : Ex A C) (b : Ex B C) : Ex B (both A B) := fun x o h => by
  unfold both
  cases q : A x with
  | none => exact h
  | some u =>
    have z1 := a x u q
    rw [b x o h] at z1
    exact z1.symm
theorem both_in {A B C : Hp} (a : Ex A C) (b : Ex B C) : Ex (both A B) C := fun x o h => by
  unfold both at h
  cases q : A x with
  | none =>
    rw [q] at h
    exact b x o h
  | some u =>
    rw [q] at h
    cases h
    exact a x _ q
theorem Gr.mono {H H' H1 G H2 : Hp} (x : Ex H H') (y : Ex H' H1) (g : Gr H H1 G H2) : Gr H' H1 (both H' G) H2 ∧ Ex G (both H' G) := by
  have y2 := y.trans g.h12
  refine ⟨⟨both_l H' G, both_in y2 g.g2, g.h12, fun b h1 h2 => ?_⟩, both_r y2 g.g2⟩
  unfold both
  rw [h1]
  refine g.sep b ?_ h2
  cases q : H b with
  | none => rfl
  | some o =>
    rw [x b o q] at h1
    cases h1

def EvD (K : PySem.W.Frag) (te : TE) (σ : L2.St) (H : Hp) (d : PyData) : Prop := ∀ H1, Ex H H1 → ∀ Q : VK, (∀ v G H2, Gr H H1 G H2 → Dp K G v d → Q v H2) → te σ H1 Q
def EvDA (K : PySem.W.Frag) (ta : TA) (σ : L2.St) (H : Hp) (ds : List PyData) : Prop := ∀ H1, Ex H H1 → ∀ Q : List V → Hp → Prop, (∀ vs G H2, Gr H H1 G H2 → DpAll K G vs ds → Q vs H2) → ta σ H1 Q
/-- a new list: G is what stands without it -/
def EvDL (K : PySem.W.Frag) (te : TE) (σ : L2.St) (H : Hp) (es : List PyData) : Prop := ∀ H1, Ex H H1 → ∀ Q : VK,
  (∀ p xs G H2, G p = none → H1 p = none → Gr H H1 G H2 → H2 p = some (.lst xs) → DpAll K G xs es → Q (.ref p) H2) → te σ H1 Q
def RD (K : PySem.W.Frag) (r : R2) (d e : PyData) (H : Hp) (z : PyData) : Prop := ∀ x y H1, Ex H H1 → Dp K H x d → Dp K H y e → ∀ Q : VK, (∀ v G H2, Gr H H1 G H2 → Dp K G v z → Q v H2) → r x y H1 Q
def RUD (K : PySem.W.Frag) (r : V → Hp → VK → Prop) (d : PyData) (H : Hp) (z : PyData) : Prop := ∀ x H1, Ex H H1 → Dp K H x d → ∀ Q : VK, (∀ v G H2, Gr H H1 G H2 → Dp K G v z → Q v H2) → r x H1 Q
def RCD (K : PySem.W.Frag) (r : List V → Hp → VK → Prop) (ds : List PyData) (H : Hp) (z : PyData) : Prop := ∀ vs H1, Ex H H1 → DpAll K H vs ds → ∀ Q : VK, (∀ v G H2, Gr H H1 G H2 → Dp K G v z → Q v H2) → r vs H1 Q
def RCDL (K : PySem.W.Frag) (r : List V → Hp → VK → Prop) (ds : List PyData) (H : Hp) (es : List PyData) : Prop := ∀ vs H1, Ex H H1 → DpAll K H vs ds → ∀ Q : VK,
  (∀ p xs G H2, G p = none → H1 p = none → Gr H H1 G H2 → H2 p = some (.lst xs) → DpAll K G xs es → Q (.ref p) H2) → r vs H1 Q
def SpD (K : PySem.W.Frag) (sp : Sp) (dvs : List V) (ds : List PyData) (z : PyData) : Prop := ∀ vs H H1, Ex H H1 → DpAll K H vs ds → ∀ (Q : VK) (E : XK), (∀ v G H2, Gr H H1 G H2 → Dp K G v z → Q v H2) → sp (vs ++ dvs) H1 Q E
def SpDL (K : PySem.W.Frag) (sp : Sp) (dvs : List V) (ds : List PyData) (es : List PyData) : Prop := ∀ vs H H1, Ex H H1 → DpAll K H vs ds → ∀ (Q : VK) (E : XK),
  (∀ p xs G H2, G p = none → H1 p = none → Gr H H1 G H2 → H2 p = some (.lst xs) → DpAll K G xs es → Q (.ref p) H2) → sp (vs ++ dvs) H1 Q E

/-! ### promises of defs that only read -/
def spP (K : PySem.W.Frag) (n : Nat) (R : List PyData → PyData → Prop) : Sp := fun vs H Q _ => ∃ B ds d, Ex B H ∧ ds.length = n ∧ DpAll K B vs ds ∧ R ds d ∧ ∀ v G H2, Gr B H G H2 → Dp K G v d → Q v H2
def spPL (K : PySem.W.Frag) (n : Nat) (R : List PyData → List PyData → Prop) : Sp := fun vs H Q _ => ∃ B ds es, Ex B H ∧ ds.length = n ∧ DpAll K B vs ds ∧ R ds es ∧
  ∀ p xs G H2, G p = none → H p = none → Gr B H G H2 → H2 p = some (.lst xs) → DpAll K G xs es → Q (.ref p) H2
theorem spP_len {K : PySem.W.Frag} {n : Nat} {R : List PyData → PyData → Prop} {ps : List Str} (hn : n = ps.length) : ∀ vs H Q E, spP K n R vs H Q E → vs.length = ps.length := fun vs H Q E h => by
  obtain ⟨B, ds, d, _, hl, hd, _⟩ := h
  rw [DpAll.length hd, hl, hn]
theorem spPL_len {K : PySem.W.Frag} {n : Nat} {R : List PyData → List PyData → Prop} {ps : List Str} (hn : n = ps.length) : ∀ vs H Q E, spPL K n R vs H Q E → vs.length = ps.length := fun vs H Q E h => by
  obtain ⟨B, ds, d, _, hl, hd, _⟩ := h
  rw [DpAll.length hd, hl, hn]

section
variable {K : PySem.W.Frag} {σ : L2.St} {H H' : Hp} {ta tb te tx : TE} {t u : TT} {d e z : PyData} {ds es : List PyData} {r : R2}
theorem EvD.mono (x : Ex H H') (h : EvD K te σ H d) : EvD K te σ H' d := fun H1 y Q q => h H1 (x.trans y) Q fun v G H2 g hd => q v _ H2 (g.mono x y).1 (dp_mono (g.mono x y).2 hd)
theorem EvDA.mono {ta : TA} (x : Ex H H') (h : EvDA K ta σ H ds) : EvDA K ta σ H' ds := fun H1 y Q q => h H1 (x.trans y) Q fun v G H2 g hd => q v _ H2 (g.mono x y).1 (dpa_mono (g.mono x y).2 hd)
theorem EvDL.mono (x : Ex H H') (h : EvDL K te σ H es) : EvDL K te σ H' es := fun H1 y Q q => h H1 (x.trans y) Q fun p xs G H2 g0 h0 g hp hd => q p xs _ H2 (by
  unfold both
  rw [fresh_back y h0]
  exact g0) h0 (g.mono x y).1 hp (dpa_mono (g.mono x y).2 hd)
/-- a new list is data, once it does not change any more -/
theorem gr_freeze {H H1 G H2 : Hp} {p : Addr} {xs : List V} (g0 : G p = none) (h0 : H1 p = none) (g : Gr H H1 G H2) (hp : H2 p = some (.lst xs)) : Gr H H1 (upd G p (.lst xs)) H2 := by
  refine ⟨g.hg.trans (Ex.new g0), fun b u q => ?_, g.h12, fun b h1 h2 => ?_⟩
  · by_cases c : b = p
    · subst c
      rw [upd_same] at q
      cases q
      exact hp
    · rw [upd_ne c] at q
      exact g.g2 b u q
  · by_cases c : b = p
    · subst c
      exact absurd h0 h2
    · rw [upd_ne c]
      exact g.sep b h1 h2
theorem dp_freeze {G : Hp} {p : Addr} {xs : List V} (g0 : G p = none) (h : DpAll K G xs es) : Dp K (upd G p (.lst xs)) (.ref p) (.list es) := .lst (sq_of upd_same) (dpa_mono (Ex.new g0) h)
theorem dl_d (h : EvDL K te σ H es) : EvD K te σ H (.list es) := fun H1 x Q q => h H1 x Q fun p xs G H2 g0 h0 g hp ha => q _ _ H2 (gr_freeze g0 h0 g hp) (dp_freeze g0 ha)
theorem d_is (h : EvD K te σ H d) (x : d = e) : EvD K te σ H e := x ▸ h
theorem d_var {i : Nat} {v : V} (h : σ[i]? = some (some v)) (hd : Dp K H v d) : EvD K (tVar i) σ H d := fun H1 x Q q => ⟨v, h, q v H H1 (.refl x) hd⟩
theorem d_int {i : Int} : EvD K (tC (.int i)) σ H (.int i) := fun H1 x _ q => q _ H H1 (.refl x) (.int i)
theorem d_bl {b : Bool} : EvD K (tC (.bl b)) σ H (.bool b) := fun H1 x _ q => q _ H H1 (.refl x) (.bl b)
theorem d_non : EvD K (tC .non) σ H .none := fun H1 x _ q => q _ H H1 (.refl x) .non
theorem d_str {x : Str} : EvD K (tC (.str x)) σ H (.str x) := fun H1 x _ q => q _ H H1 (.refl x) (.str _)
theorem d_op (ha : EvD K ta σ H d) (hb : EvD K tb σ H e) (hr : ∀ G, Ex H G → RD K r d e G z) : EvD K (tOp r ta tb) σ H z := fun H1 x Q q =>
  ha H1 x _ fun v G2 H2 g2 h2 => hb.mono g2.hg H2 g2.g2 _ fun w G3 H3 g3 h3 => hr G3 (g2.hg.trans g3.hg) v w H3 g3.g2 (dp_mono g3.hg h2) h3 Q fun y G4 H4 g4 h4 => q y G4 H4 ((g2.trans g3).trans g4) h4
theorem d_un {r : V → Hp → VK → Prop} (ha : EvD K ta σ H d) (hr : ∀ G, Ex H G → RUD K r d G z) : EvD K (tUn r ta) σ H z := fun H1 x Q q =>
  ha H1 x _ fun v G2 H2 g2 h2 => hr G2 g2.hg v H2 g2.g2 h2 Q fun y G4 H4 g4 h4 => q y G4 H4 (g2.trans g4) h4
theorem rd_I0 {g : Int → Int → V} {i j : Int} (hz : ∀ H, Dp K H (g i j) z) : RD K (rI0 g) (.int i) (.int j) H z := fun x y H1 e hx hy Q q => ⟨i, j, hx.int_of, hy.int_of, q _ H H1 (.refl e) (hz H)⟩
theorem rd_int {g : Int → Int → Int} {i j : Int} : RD K (rI0 fun i j => .int (g i j)) (.int i) (.int j) H (.int (g i j)) := rd_I0 fun _ => .int _
theorem rd_cmp {g : Int → Int → Bool} {i j : Int} : RD K (rI0 fun i j => .bl (g i j)) (.int i) (.int j) H (.bool (g i j)) := rd_I0 fun _ => .bl _
theorem rd_intC {C : Int → Int → Prop} {g : Int → Int → Int} {i j : Int} (hc : C i j) : RD K (rI C fun i j => .int (g i j)) (.int i) (.int j) H (.int (g i j)) := fun x y H1 e hx hy Q q => ⟨i, j, hx.int_of, hy.int_of, hc, q _ H H1 (.refl e) (.int _)⟩
/-- scalars that may be compared: both ints, both texts, both bools, or one of them None -/
def scalD : PyData → PyData → Bool
  | .none, .none => true
  | .none, .int _ => true
  | .int _, .none => true
  | .none, .bool _ => true
  | .bool _, .none => true
  | .none, .str _ => true
  | .str _, .none => true
  | .int _, .int _ => true
  | .bool _, .bool _ => true
  | .str _, .str _ => true
  | _, _ => false
def eqS : PyData → PyData → Bool
  | .none, .none => true
  | .int i, .int j => decide (i = j)
  | .bool i, .bool j => decide (i = j)
  | .str i, .str j => decide (i = j)
  | _, _ => false
theorem scal_of {x y : V} (hx : Dp K H x d) (hy : Dp K H y e) (h : scalD d e = true) : scal x y = true ∧ decide (x = y) = eqS d e := by
  cases d <;> cases e <;> (first | (exfalso; exact Bool.noConfusion (show false = true from h)) | skip)
  · rw [hx.non_of, hy.non_of]; exact ⟨rfl, rfl⟩
  · rw [hx.non_of, hy.bl_of]; exact ⟨rfl, rfl⟩
  · rw [hx.non_of, hy.int_of]; exact ⟨rfl, rfl⟩
  · rw [hx.non_of, hy.str_of]; exact ⟨rfl, rfl⟩
  · rw [hx.bl_of, hy.non_of]; exact ⟨rfl, rfl⟩
  · rename_i a b
    rw [hx.bl_of, hy.bl_of]
    exact ⟨rfl, decide_eq_decide.mpr ⟨fun z => V.bl.inj z, fun z => by rw [z]⟩⟩
  · rw [hx.int_of, hy.non_of]; exact ⟨rfl, rfl⟩
  · rename_i a b
    rw [hx.int_of, hy.int_of]
    exact ⟨rfl, decide_eq_decide.mpr ⟨fun z => V.int.inj z, fun z => by rw [z]⟩⟩
  · rw [hx.str_of, hy.non_of]; exact ⟨rfl, rfl⟩
  · rename_i a b
    rw [hx.str_of, hy.str_of]
    exact ⟨rfl, decide_eq_decide.mpr ⟨fun z => V.str.inj z, fun z => by rw [z]⟩⟩
theorem rd_eq (h : scalD d e = true) : RD K rEq d e H (.bool (eqS d e)) := fun x y H1 ex hx hy Q q => by
  obtain ⟨h1, h2⟩ := scal_of hx hy h
  refine ⟨h1, ?_⟩
  rw [h2]
  exact q _ H H1 (.refl ex) (.bl _)
theorem rd_ne (h : scalD d e = true) : RD K rNe d e H (.bool (!eqS d e)) := fun x y H1 ex hx hy Q q => by
  obtain ⟨h1, h2⟩ := scal_of hx hy h
  refine ⟨h1, ?_⟩
  rw [h2]
  exact q _ H H1 (.refl ex) (.bl _)
def isNonD : PyData → Bool
  | .none => true
  | _ => false
theorem non_iff {x : V} (hx : Dp K H x d) : decide (x = .non) = isNonD d := by
  cases hx <;> rfl
theorem rd_isN : RD K (fun x y H Q => y = .non ∧ Q (.bl (decide (x = .non))) H) d .none H (.bool (isNonD d)) := fun x y H1 ex hx hy Q q => by
  refine ⟨hy.non_of, ?_⟩
  rw [non_iff hx]
  exact q _ H H1 (.refl ex) (.bl _)
theorem rd_notN : RD K (fun x y H Q => y = .non ∧ Q (.bl (!decide (x = .non))) H) d .none H (.bool (!isNonD d)) := fun x y H1 ex hx hy Q q => by
  refine ⟨hy.non_of, ?_⟩
  rw [non_iff hx]
  exact q _ H H1 (.refl ex) (.bl _)
theorem rd_eqD (h1 : SeqAt.shaped d = true) (h2 : SeqAt.shaped e = true) : RD K (rEqD K) d e H (.bool (PyData.eqv d e)) := fun x y H1 ex hx hy Q q => ⟨d, e, dp_mono ex hx, dp_mono ex hy, h1, h2, q _ H H1 (.refl ex) (.bl _)⟩
theorem rd_neD (h1 : SeqAt.shaped d = true) (h2 : SeqAt.shaped e = true) : RD K (rNeD K) d e H (.bool (!PyData.eqv d e)) := fun x y H1 ex hx hy Q q => ⟨d, e, dp_mono ex hx, dp_mono ex hy, h1, h2, q _ H H1 (.refl ex) (.bl _)⟩
theorem rd_isBl {a b : Bool} : RD K rIsB (.bool a) (.bool b) H (.bool (decide (a = b))) := fun x y H1 ex hx hy Q q => ⟨a, b, hx.bl_of, hy.bl_of, q _ H H1 (.refl ex) (.bl _)⟩
theorem rd_notBl {a b : Bool} : RD K rNotB (.bool a) (.bool b) H (.bool (!decide (a = b))) := fun x y H1 ex hx hy Q q => ⟨a, b, hx.bl_of, hy.bl_of, q _ H H1 (.refl ex) (.bl _)⟩
theorem rud_neg {i : Int} : RUD K (rU fun i => .int (-i)) (.int i) H (.int (-i)) := fun x H1 ex hx Q q => ⟨i, hx.int_of, q _ H H1 (.refl ex) (.int _)⟩

theorem da_nil : EvDA K tNil σ H [] := fun H1 x _ q => q [] H H1 (.refl x) .nil
theorem da_cons {tr : TA} (h : EvD K ta σ H d) (hr : EvDA K tr σ H ds) : EvDA K (tCons ta tr) σ H (d :: ds) := fun H1 x _ q =>
  h H1 x _ fun v G2 H2 g2 h2 => hr.mono g2.hg H2 g2.g2 _ fun vs G3 H3 g3 h3 => q (v :: vs) G3 H3 (g2.trans g3) (.cons (dp_mono g3.hg h2) h3)
theorem d_cb {r : List V → Hp → VK → Prop} {ta : TA} (h : EvDA K ta σ H ds) (hr : ∀ G, Ex H G → RCD K r ds G z) : EvD K (tCB r ta) σ H z := fun H1 x Q q =>
  h H1 x _ fun vs G2 H2 g2 h2 => hr G2 g2.hg vs H2 g2.g2 h2 Q fun v G3 H3 g3 h3 => q v G3 H3 (g2.trans g3) h3
theorem dl_cb {r : List V → Hp → VK → Prop} {ta : TA} (h : EvDA K ta σ H ds) (hr : ∀ G, Ex H G → RCDL K r ds G es) : EvDL K (tCB r ta) σ H es := fun H1 x Q q =>
  h H1 x _ fun vs G2 H2 g2 h2 => hr G2 g2.hg vs H2 g2.g2 h2 Q fun p xs G3 H3 g0 h0 g3 h3 h4 => q p xs G3 H3 g0 (fresh_back g2.h12 h0) (g2.trans g3) h3 h4
theorem d_call {sp : Sp} {dvs : List V} {E : XK} {ta : TA} (h : EvDA K ta σ H ds) (hs : SpD K sp dvs ds z) : EvD K (tCall sp dvs E ta) σ H z := fun H1 x Q q =>
  h H1 x _ fun vs G2 H2 g2 h2 => hs vs G2 H2 g2.g2 h2 Q E fun v G3 H3 g3 h3 => q v G3 H3 (g2.trans g3) h3
theorem dl_call {sp : Sp} {dvs : List V} {E : XK} {ta : TA} (h : EvDA K ta σ H ds) (hs : SpDL K sp dvs ds es) : EvDL K (tCall sp dvs E ta) σ H es := fun H1 x Q q =>
  h H1 x _ fun vs G2 H2 g2 h2 => hs vs G2 H2 g2.g2 h2 Q E fun p xs G H3 g0 h0 g1 h3 h4 => q p xs G H3 g0 (fresh_back g2.h12 h0) (g2.trans g1) h3 h4
theorem sp_P {n : Nat} {R : List PyData → PyData → Prop} (hn : ds.length = n) (h : R ds z) : SpD K (spP K n R) [] ds z := fun vs H H1 x hd Q E q => ⟨H, ds, z, x, hn, by rw [List.append_nil]; exact hd, h, q⟩
theorem sp_PL {n : Nat} {R : List PyData → List PyData → Prop} (hn : ds.length = n) (h : R ds es) : SpDL K (spPL K n R) [] ds es := fun vs H H1 x hd Q E q => ⟨H, ds, es, x, hn, by rw [List.append_nil]; exact hd, h, q⟩
/-- displays -/
theorem d_tup {ta : TA} (h : EvDA K ta σ H ds) (hl : ds.length ≤ 100000) : EvD K (tTup ta) σ H (.tuple ds) := fun H1 x _ q =>
  h H1 x _ fun vs G2 H2 g2 h2 => ⟨sz_of (by rw [DpAll.length h2]; exact hl), fun p hp => q _ _ _ (g2.trans (Gr.new g2.g2 hp)) (.tup (st_of upd_same) (dpa_mono (Ex.new (fresh_back g2.g2 hp)) h2))⟩
theorem dl_lst {ta : TA} (h : EvDA K ta σ H ds) (hl : ds.length ≤ 100000) : EvDL K (tLst ta) σ H ds := fun H1 x _ q =>
  h H1 x _ fun vs G2 H2 g2 h2 => ⟨sz_of (by rw [DpAll.length h2]; exact hl), fun p hp => q p vs G2 _ (fresh_back g2.g2 hp) (fresh_back g2.h12 hp) (g2.trans (Gr.mut g2.g2 hp)) upd_same h2⟩
/-- tests -/
theorem t_val {b : Bool} (h : EvD K te σ H (.bool b)) : EvT (tB te) σ H b := fun H1 x Q q => h H1 x _ fun v G H2 g h2 => ⟨b, h2.bl_of, q H2 g.h12⟩
theorem d_if {b : Bool} (h : EvT t σ H b) (h1 : b = true → EvD K ta σ H d) (h2 : b = false → EvD K tb σ H d) : EvD K (tIf t ta tb) σ H d := fun H1 x Q q => h H1 x _ fun H2 e2 => by
  cases b with
  | true => exact h1 rfl H2 (x.trans e2) Q fun v G H3 g h3 => q v G H3 ⟨g.hg, g.g2, e2.trans g.h12, fun b y1 y2 => g.sep b y1 fun z => y2 (fresh_back e2 z)⟩ h3
  | false => exact h2 rfl H2 (x.trans e2) Q fun v G H3 g h3 => q v G H3 ⟨g.hg, g.g2, e2.trans g.h12, fun b y1 y2 => g.sep b y1 fun z => y2 (fresh_back e2 z)⟩ h3
theorem d_and {a b : Bool} (h1 : EvD K ta σ H (.bool a)) (h2 : a = true → EvD K tb σ H (.bool b)) : EvD K (tAndV ta tb) σ H (.bool (a && b)) := fun H1 x Q q => h1 H1 x _ fun v G2 H2 g2 hv => ⟨a, hv.bl_of, by
  cases a with
  | true => exact (h2 rfl).mono g2.hg H2 g2.g2 Q fun w G3 H3 g3 h3 => q w G3 H3 (g2.trans g3) h3
  | false => exact q _ G2 H2 g2 (.bl false)⟩
theorem d_or {a b : Bool} (h1 : EvD K ta σ H (.bool a)) (h2 : a = false → EvD K tb σ H (.bool b)) : EvD K (tOrV ta tb) σ H (.bool (a || b)) := fun H1 x Q q => h1 H1 x _ fun v G2 H2 g2 hv => ⟨a, hv.bl_of, by
  cases a with
  | false => exact (h2 rfl).mono g2.hg H2 g2.g2 Q fun w G3 H3 g3 h3 => q w G3 H3 (g2.trans g3) h3
  | true => exact q _ G2 H2 g2 (.bl true)⟩
theorem d_not {a : Bool} (h1 : EvD K ta σ H (.bool a)) : EvD K (tNotV ta) σ H (.bool (!a)) := fun H1 x Q q => h1 H1 x _ fun v G2 H2 g2 hv => ⟨a, hv.bl_of, q _ G2 H2 g2 (.bl _)⟩
end

/-! ### statements: B is what is known for good -/
section
variable {K : PySem.W.Frag} {σ : L2.St} {B H H' : Hp} {ta tb te tx : TE} {t u : TT} {d e z : PyData} {ds es : List PyData} {D : Ends} {tu tw tz : TS} {g : TG}
theorem sd_asg {i : Nat} (x : Ex B H) (h : EvD K te σ B d) (k : ∀ v G H1, Gr B H G H1 → Dp K G v d → D.nx (σ.set i (some v)) H1) : tAsg te (gName i) D σ H := h H x _ k
theorem sd_ret (x : Ex B H) (h : EvD K te σ B d) (k : ∀ v G H1, Gr B H G H1 → Dp K G v d → D.rt v H1) : tRet te D σ H := h H x _ k
theorem sd_retL (x : Ex B H) (h : EvDL K te σ B es) (k : ∀ p xs G H2, G p = none → H p = none → Gr B H G H2 → H2 p = some (.lst xs) → DpAll K G xs es → D.rt (.ref p) H2) : tRet te D σ H := h H x _ k
theorem sd_asgL {i : Nat} (x : Ex B H) (h : EvDL K te σ B es) (k : ∀ p xs G H2, G p = none → H p = none → Gr B H G H2 → H2 p = some (.lst xs) → DpAll K G xs es → D.nx (σ.set i (some (.ref p))) H2) : tAsg te (gName i) D σ H := h H x _ k
theorem sd_drop (x : Ex B H) (h : EvD K te σ B d) (k : ∀ H1, Ex H H1 → D.nx σ H1) : tDrop te D σ H := h H x _ fun _ G H1 g _ => k H1 g.h12
theorem qd_asg {i : Nat} (x : Ex B H) (h : EvD K te σ B d) (k : ∀ v G H1, Gr B H G H1 → Dp K G v d → tz D (σ.set i (some v)) H1) : tSeq (tAsg te (gName i)) tz D σ H := sd_asg (D := { D with nx := tz D }) x h k
theorem qd_asgL {i : Nat} (x : Ex B H) (h : EvDL K te σ B es) (k : ∀ p xs G H2, G p = none → H p = none → Gr B H G H2 → H2 p = some (.lst xs) → DpAll K G xs es → tz D (σ.set i (some (.ref p))) H2) : tSeq (tAsg te (gName i)) tz D σ H := sd_asgL (D := { D with nx := tz D }) x h k
theorem qd_drop (x : Ex B H) (h : EvD K te σ B d) (k : ∀ H1, Ex H H1 → tz D σ H1) : tSeq (tDrop te) tz D σ H := sd_drop (D := { D with nx := tz D }) x h k
theorem sd_if {b : Bool} (x : Ex B H) (h : EvT t σ B b) (h1 : b = true → ∀ H1, Ex H H1 → tu D σ H1) (h2 : b = false → ∀ H1, Ex H H1 → tw D σ H1) : tIfS t tu tw D σ H := s_if (fun H1 a Q q => h H1 (x.trans a) Q q) h1 h2
theorem qd_if {b : Bool} (x : Ex B H) (h : EvT t σ B b) (h1 : b = true → ∀ H1, Ex H H1 → tu { D with nx := tz D } σ H1) (h2 : b = false → ∀ H1, Ex H H1 → tw { D with nx := tz D } σ H1) : tSeq (tIfS t tu tw) tz D σ H := sd_if (D := { D with nx := tz D }) x h h1 h2
theorem qd_when {b : Bool} (x : Ex B H) (h : EvT t σ B b) (h1 : b = true → ∀ H1, Ex H H1 → tu { D with nx := tz D } σ H1) (h2 : b = false → ∀ H1, Ex H H1 → tz D σ H1) : tSeq (tIfS t tu tNext) tz D σ H := sd_if (D := { D with nx := tz D }) x h h1 h2
theorem sd_when {b : Bool} (x : Ex B H) (h : EvT t σ B b) (h1 : b = true → ∀ H1, Ex H H1 → tu D σ H1) (h2 : b = false → ∀ H1, Ex H H1 → D.nx σ H1) : tIfS t tu tNext D σ H := sd_if x h h1 h2
/-- if a: (never) -/
theorem qd_no {y : TS} (x : Ex B H) (h : EvT t σ B false) (k : ∀ H1, Ex H H1 → tz D σ H1) : tSeq (tIfS t y tNext) tz D σ H := qd_when x h (fun z => Bool.noConfusion z) fun _ => k
theorem sd_no {y : TS} (x : Ex B H) (h : EvT t σ B false) (k : ∀ H1, Ex H H1 → D.nx σ H1) : tIfS t y tNext D σ H := sd_when x h (fun z => Bool.noConfusion z) fun _ => k
end

/-! ### a row that is walked, a row that is unpacked -/
def iRow (K : PySem.W.Frag) (tl : TE) : TI := fun σ H R => tl σ H fun x H1 => ∃ a, x = .ref a ∧ (((∃ xs, SqL K H1 a xs) ∧ R (Itl K a) H1) ∨ ((∃ xs, SqT K H1 a xs) ∧ R (Itt K a) H1))
theorem pi_row {X : Cx} {tg l : Expr} {tl : TE} (hl : PE X l tl) : PI X tg l (iRow X.K tl) := by
  refine ⟨fun pns st σ H R I0 h => thn (hl.run pns st σ H _ I0 h) fun u st1 ⟨x, Hn, In, rx, q1⟩ => ?_⟩
  obtain ⟨a, ex, q⟩ := q1
  subst ex
  cases rx
  have fresh : ∀ b ∈ [st1.heap.objs.size], FpOk X pns Hn b := fun b hb => by
    rw [List.mem_singleton.mp hb]
    exact In.fpOk (Nat.le_refl _) (In.hok.fresh (Nat.le_refl _))
  rcases q with ⟨⟨xs, hq⟩, q⟩ | ⟨⟨xs, hq⟩, q⟩
  · obtain ⟨its, _, pl, _⟩ := In.list hq
    exact wpAny_pyIter_list pl.isList ⟨_, [st1.heap.objs.size], _, _, Hn, rfl, In.kept (t' := st1.toks) (fun _ _ z => Heap.get?_push_of_some _ z), turn_list a _, ⟨_, Heap.get?_push_size _ rfl, rfl, rfl⟩, fresh, q⟩
  · obtain ⟨its, _, pl, _⟩ := In.tuple hq
    exact wpAny_pyIter_tuple (show st1.heap.IsTuple a its.toArray from pl) ⟨_, [st1.heap.objs.size], _, _, Hn, rfl, In.kept (t' := st1.toks) (fun _ _ z => Heap.get?_push_of_some _ z), turn_tuple a _, ⟨_, Heap.get?_push_size _ rfl, rfl, rfl⟩, fresh, q⟩
def gRow (K : PySem.W.Frag) (n : Nat) (t : TGs) : TG := fun v σ H Q => ∃ a xs, v = .ref a ∧ Row K H a xs ∧ xs.length = n ∧ t xs σ H Q
theorem pg_row {X : Cx} {pos : Pos} {es : List Expr} {k : Nat} {t : TGs} {n : Nat} (hc : X.calm = true) (h : PGs X es t)
    (hn : (assignEach es X.env).length = n := by rfl) (hst : (assignEach es X.env).findIdx? (·.1) = none := by rfl) : PG X (.Tuple es k pos) (gRow X.K n t) := by
  refine ⟨fun pins s σ H v u Q I r hw => ?_⟩
  obtain ⟨a, xs, e1, hq, hl, hw⟩ := hw
  rcases hq with hq | hq
  · exact (pg_unl hc h hn hst).run pins s σ H v u Q I r ⟨a, xs, e1, hq, hl, hw⟩
  · exact (pg_tup hc h hn hst).run pins s σ H v u Q I r ⟨a, xs, e1, hq, hl, hw⟩
/-- (i, j) = a pair -/
theorem g_pair {K : PySem.W.Frag} {H : Hp} {σ : L2.St} {v : V} {b : Bool} {d e : PyData} {i j : Nat} {Q : L2.St → Hp → Prop} (h : Dp K H v (rows b [d, e]))
    (k : ∀ x y, Dp K H x d → Dp K H y e → Q ((σ.set i (some x)).set j (some y)) H) : gRow K 2 (gCons (gName i) (gCons (gName j) gNil)) v σ H Q := by
  obtain ⟨a, xs, e1, hr, ha⟩ := row_of h
  cases ha with
  | cons h1 a1 =>
    cases a1 with
    | cons h2 a2 =>
      cases a2
      exact ⟨a, _, e1, hr, rfl, _, _, rfl, _, _, rfl, rfl, k _ _ h1 h2⟩

section
variable {K : PySem.W.Frag} {σ : L2.St} {G H H' : Hp} {D : Ends} {tu tz : TS} {g : TG} {ds : List PyData} {b : Bool} {v : V}
/-- for .. in a row that G knows, at the j-th slot -/
theorem sd_for {j : Nat} (e : Ex G H) (hd : Dp K G v (rows b ds)) (hv : σ[j]? = some (some v)) (Pv : Nat → L2.St → Hp → Prop) (h0 : Pv 0 σ H) (hG : ∀ i σ' H', i ≤ ds.length → Pv i σ' H' → Ex G H')
    (hs : ∀ i d x σ' H', ds[i]? = some d → Dp K G x d → Pv i σ' H' → g x σ' H' fun σ2 H2 => tu { D with nx := Pv (i + 1), ct := Pv (i + 1), bk := D.nx } σ2 H2)
    (hn : ∀ σ' H', Pv ds.length σ' H' → D.nx σ' H') : tFor (iRow K (tVar j)) g tu D σ H := by
  obtain ⟨a, xs, rfl, hr, ha⟩ := row_of hd
  have hl := ha.length
  refine ⟨_, hv, a, rfl, ?_⟩
  rcases hr with hr | hr
  · refine .inl ⟨⟨xs, ex_l e hr⟩, for_list (xs := xs) Pv h0 (fun i σ' H' hi p => ex_l (hG i σ' H' (by omega) p) hr) (fun i x σ' H' hx p => ?_) (by rw [hl]; exact hn)⟩
    obtain ⟨d, h1, h2⟩ := ha.get hx
    exact hs i d x σ' H' h1 h2 p
  · refine .inr ⟨⟨xs, ex_t e hr⟩, for_tup (xs := xs) Pv h0 (fun i σ' H' hi p => ex_t (hG i σ' H' (by omega) p) hr) (fun i x σ' H' hx p => ?_) (by rw [hl]; exact hn)⟩
    obtain ⟨d, h1, h2⟩ := ha.get hx
    exact hs i d x σ' H' h1 h2 p
theorem qd_for {j : Nat} (e : Ex G H) (hd : Dp K G v (rows b ds)) (hv : σ[j]? = some (some v)) (Pv : Nat → L2.St → Hp → Prop) (h0 : Pv 0 σ H) (hG : ∀ i σ' H', i ≤ ds.length → Pv i σ' H' → Ex G H')
    (hs : ∀ i d x σ' H', ds[i]? = some d → Dp K G x d → Pv i σ' H' → g x σ' H' fun σ2 H2 => tu { D with nx := Pv (i + 1), ct := Pv (i + 1), bk := tz D } σ2 H2)
    (hn : ∀ σ' H', Pv ds.length σ' H' → tz D σ' H') : tSeq (tFor (iRow K (tVar j)) g tu) tz D σ H := sd_for (D := { D with nx := tz D }) e hd hv Pv h0 hG hs hn
end
end Tb
end

section
set_option Elab.async false
set_option linter.all false
set_option maxRecDepth 100000
set_option maxHeartbeats 1000000
/-! Toss base 3: enumerate over a row, with a start or none. -/
namespace Tb
open PySem PySem.Spec PyProof.Rows L2 Evl

theorem meets_enum1 {v : Value} {ob : Obj} {Hs : Heap → Prop} (B : Begins v ob Hs) :
    Meets (Builtin.«enumerate.__new__» ⟨[.type "enumerate", v], []⟩) (fun _ Rr st => Hs st.heap ∧
      Rr (.ok (.ret (.ref (st.heap.push ob).objs.size))) { st with heap := (st.heap.push ob).push { cls := .type "enumerate", data := .fields #[.none, .bool false, .ref st.heap.objs.size, rawInt 0, .none, .none] } }) :=
  .of_wp fun prog w A R st hh => by
    obtain ⟨hp, gg, dd, tk, os⟩ := st
    obtain ⟨h1, hh⟩ := hh
    have hsub := sub_enumerate
    have q1 : ∀ {A' : Around} {E' : Value → Shared → Prop} {Q' : Value → Shared → Prop}, Q' (.ref hp.objs.size) ⟨hp.push ob, gg, dd, tk, os⟩ → wpAny (model prog w) A' (pyIter v) Q' E' ⟨hp, gg, dd, tk, os⟩ :=
      fun q => B.iter prog w _ _ ⟨hp, gg, dd, tk, os⟩ _ h1 q
    wp_walk using q1
    refine wpAny_stack_any fun _ => wpAny_pure ?_
    split
    · rename_i cc _ _ _ _ _
      cases (cc == Value.type "enumerate") <;> (wp_walk using q1; exact ⟨_, rfl, hh⟩)
    · wp_walk using q1
      exact ⟨_, rfl, hh⟩
theorem enum_begins1 {prog : Program} {w : World} {A : Around} {E : Value → Shared → Prop} {st : Shared} {v : Value} {ob : Obj} {Hs : Heap → Prop} {Q : Value → Shared → Prop} (B : Begins v ob Hs) (h1 : Hs st.heap)
    (k : ∀ h', IsEnum h' (st.heap.objs.size + 1) st.heap.objs.size 0 .none → h'.get? st.heap.objs.size = some ob → (∀ b u, st.heap.get? b = some u → h'.get? b = some u) → Q (.ref (st.heap.objs.size + 1)) { st with heap := h' }) :
    wpAny (model prog w) A (call (.type "enumerate") [v]) Q E st := by
  refine callType_new F.called_enumerate (by decide) (F.typeCall_enumerate_1 _) (F.newCall_enumerate_1 _) (fun u => F.args_object_init_2 u _) F.entry_enumerate_new (meets_enum1 B) ⟨h1, ?_⟩
  have hz : (st.heap.push ob).objs.size = st.heap.objs.size + 1 := Heap.size_push ..
  show _ ∧ _
  rw [hz]
  have he : IsEnum ((st.heap.push ob).push { cls := .type "enumerate", data := .fields #[.none, .bool false, .ref st.heap.objs.size, rawInt 0, .none, .none] }) (st.heap.objs.size + 1) st.heap.objs.size 0 .none := by
    have z := Heap.get?_push_size (st.heap.push ob) (o := { cls := .type "enumerate", data := .fields #[.none, .bool false, .ref st.heap.objs.size, rawInt 0, .none, .none] }) rfl
    rw [hz] at z
    exact z
  exact ⟨⟨_, he, rfl⟩, k _ he (Heap.get?_push_of_some _ (Heap.get?_push_size _ B.free)) fun b u z => Heap.get?_push_of_some _ (Heap.get?_push_of_some _ z)⟩

/-! ### the turns -/
def IteL (K : PySem.W.Frag) (a : Addr) (k0 : Int) : It :=
  ⟨fun i H => ∃ xs x, SqL K H a xs ∧ xs[i]? = some x, fun i H v H' => ∃ T x, v = .ref T ∧ H T = none ∧ H' = upd H T (.tup [.int (k0 + (i : Nat)), x]) ∧ ∀ xs, SqL K H a xs → xs[i]? = some x, fun i H => ∃ xs, SqL K H a xs ∧ xs.length = i⟩
def IteT (K : PySem.W.Frag) (a : Addr) (k0 : Int) : It :=
  ⟨fun i H => ∃ xs x, SqT K H a xs ∧ xs[i]? = some x, fun i H v H' => ∃ T x, v = .ref T ∧ H T = none ∧ H' = upd H T (.tup [.int (k0 + (i : Nat)), x]) ∧ ∀ xs, SqT K H a xs → xs[i]? = some x, fun i H => ∃ xs, SqT K H a xs ∧ xs.length = i⟩
/-- one turn, whatever is walked -/
theorem enum_turn {X : Cx} {pins : List (Addr × Obj)} {σ : L2.St} {H : Hp} {st : Shared} {E : Value → Shared → Prop} {elts : List Expr} {kk : Nat} {tpos : Pos} {e it : Addr} {fp : List Addr} {n i : Nat} {P : Nat → Value → Prop} {Sx : Nat → Heap → Prop} {k0 : Int} {x : V}
    (I : Inv X pins σ H st) (D : Draws X.prog X.w X.A.in1 it fp n P Sx) (hf : ∀ b ∈ [e, it], FpOk X pins H b) (he : ∃ old, IsEnum st.heap e it (k0 + (i : Nat)) old) (hs : Sx i st.heap) (hi : i < n) (hne : e ≠ it) (hef : e ∉ fp) (hr : ∀ u, P i u → RelV x u)
    {R : Heap → Prop} (keepR : ∀ h h', Sx (i + 1) h → Heap.SameBut e h h' → R h') :
    wpAny (model X.prog X.w) X.A (pyNext (.ref e)) (fun r s1 => ∃ u, r = some u ∧
      wpAny (model X.prog X.w) X.A (letOwnedTupleGo (.Tuple elts kk tpos) (.ref e) u) (fun _ s2 => ∃ v H', Inv X pins σ H' s2 ∧ RelV v u ∧ (∃ T, v = .ref T ∧ H T = none ∧ H' = upd H T (.tup [.int (k0 + (i : Nat)), x])) ∧
        ((∃ old, IsEnum s2.heap e it (k0 + ((i + 1 : Nat) : Int)) old) ∧ R s2.heap) ∧ ∀ b ∈ [e, it], H' b = none) E s1) E st := by
  obtain ⟨old, he⟩ := he
  have hel : e < st.heap.objs.size := Heap.lt_size he
  have hil : it < st.heap.objs.size := by
    obtain ⟨_, z⟩ := D.live _ _ hs
    exact Heap.lt_size z
  refine wpAny_pyNext_enum_itemC D he hs hi hne hef fun u h' tk hP ho hs' hT hsz hk => ?_
  refine ⟨_, rfl, wpAny_letOwnedTupleGo_enum (s := { st with heap := h', toks := tk + 1 }) ho fun h2 he2 sb => ?_⟩
  have hT2 : h2.get? st.heap.objs.size = some { cls := .type "tuple", data := .seq #[.int (k0 + (i : Nat)) tk, u] } := (sb.2 _ (Nat.ne_of_gt hel)).trans hT
  have new : ObjOk X.prog X.w (upd H st.heap.objs.size (.tup [.int (k0 + (i : Nat)), x])) h2 st.heap.objs.size (.tup [.int (k0 + (i : Nat)), x]) :=
    ⟨by show 2 ≤ sizeLine; decide, [.int (k0 + (i : Nat)) tk, u], .cons ⟨_, rfl⟩ (.cons (hr u hP) .nil), ⟨_, hT2, rfl, _, rfl⟩⟩
  have I1 : Inv X pins σ (upd H st.heap.objs.size (.tup [.int (k0 + (i : Nat)), x])) { st with heap := h2, toks := tk + 1 } :=
    I.turnedNew (ch := [e, it]) (fun b ob hb q => (sb.2 b (fun z => hb (by simp [z]))).trans (hk b ob (fun z => hb (by simp [z])) (fun z => hb (by simp [z])) q)) hf (Nat.le_refl _) new
  refine ⟨.ref st.heap.objs.size, _, I1, rfl, ⟨_, rfl, I.hok.fresh (Nat.le_refl _), rfl⟩, ⟨⟨u, ?_⟩, keepR _ _ hs' sb⟩, fun b hb => ?_⟩
  · have e1 : k0 + ((i + 1 : Nat) : Int) = k0 + (i : Nat) + 1 := by omega
    rw [e1]
    exact he2
  · have hb' : b < st.heap.objs.size := by
      have z : b = e ∨ b = it := by simpa using hb
      rcases z with z | z
      · rw [z]; exact hel
      · rw [z]; exact hil
    rw [upd_ne (Nat.ne_of_lt hb')]
    exact (hf b hb).1
theorem turn_enumL {P : Program} {w : World} {K : PySem.W.Frag} {elts : List Expr} {kk : Nat} {tpos : Pos} (k0 : Int) (a e it : Addr) (hae : a ≠ e) (hai : a ≠ it) :
    Turn P w K (.Tuple elts kk tpos) (IteL K a k0) [e, it] e (fun i h => (∃ old, IsEnum h e it (k0 + (i : Nat)) old) ∧ h.IsListIter it a i ∧ e ≠ it) where
  mem := by simp
  obj := fun i h z b hb => by
    obtain ⟨⟨old, he⟩, ⟨o, ho, hc, hd⟩, _⟩ := z
    have e' : b = e ∨ b = it := by simpa using hb
    rcases e' with z | z
    · rw [z]; exact ⟨_, he, fun v q => nomatch q⟩
    · rw [z]; exact ⟨o, ho, fun v q => by rw [hd] at q; cases q⟩
  keep := fun i h h' z k => by
    obtain ⟨⟨old, he⟩, hi, hne⟩ := z
    exact ⟨⟨old, k e (by simp) _ he⟩, hi.at fun o q => k it (by simp) o q, hne⟩
  item := by
    intro X hP hw hK hc i pins s σ H E I hf st hg
    subst hP hw hK
    obtain ⟨he, hit, hne⟩ := st
    obtain ⟨xs, x, hq, hx⟩ := hg
    obtain ⟨its, rv, p, hz⟩ := I.list hq
    obtain ⟨u, hu, ru⟩ := rv.get hx
    have hul : its.toArray[i]? = some u := by simpa using hu
    have hlt : i < its.toArray.size := (Array.getElem?_eq_some_iff.mp hul).1
    refine wpAny_mono (enum_turn (elts := elts) (kk := kk) (tpos := tpos) (R := fun h => h.IsListIter it a (i + 1)) I (Draws.list (by exact I.ok.hd hc) it a hai its.toArray) hf he ⟨hit, p.isList⟩ hlt hne (by simp [hne, hae.symm]) (x := x) (fun u' h' => ?_) (fun h h' hs sb => hs.1.at fun o q => (sb.2 it hne.symm).trans q)) (fun r s1 h => ?_) fun _ _ z => z
    · have e1 : u' = u := Option.some.inj (h'.symm.trans hul)
      rw [e1]
      exact ru
    · obtain ⟨u', er, q⟩ := h
      refine ⟨u', er, wpAny_mono q (fun _ s2 h2 => ?_) fun _ _ z => z⟩
      obtain ⟨v, H', I', rv', ⟨T, e1, e2, e3⟩, ⟨z1, z2⟩, z3⟩ := h2
      exact ⟨v, H', I', rv', ⟨T, x, e1, e2, e3, fun ys hy => by rw [I.list_inj hy hq]; exact hx⟩, ⟨z1, z2, hne⟩, z3⟩
  done := by
    intro X hP hw hK hc i pins s σ H E I hf st hg
    subst hP hw hK
    obtain ⟨⟨old, he⟩, hit, hne⟩ := st
    obtain ⟨xs, hq, hx⟩ := hg
    obtain ⟨its, rv, p, hz⟩ := I.list hq
    obtain ⟨f0, f1, f2, f3, f4, f5⟩ := hf it (by simp)
    have hl : i = its.toArray.size := by
      have := rv.length
      simp only [List.size_toArray]
      omega
    subst hl
    exact wpAny_pyNext_enum_endD (Draws.list (by exact I.ok.hd hc) it a hai its.toArray) he ⟨hit, p.isList⟩ fun h' eb => ⟨rfl, I.turned (t' := s.toks) (fun b o hb q => eb b o hb q) f0 f1 f3 f4 f5⟩
  self := fun A i s Q E z hQ => by
    obtain ⟨⟨old, he⟩, _⟩ := z
    exact wpAny_pyIter_enum he hQ
theorem turn_enumT {P : Program} {w : World} {K : PySem.W.Frag} {elts : List Expr} {kk : Nat} {tpos : Pos} (k0 : Int) (a e it : Addr) (hae : a ≠ e) (hai : a ≠ it) :
    Turn P w K (.Tuple elts kk tpos) (IteT K a k0) [e, it] e (fun i h => (∃ old, IsEnum h e it (k0 + (i : Nat)) old) ∧ h.IsTupleIter it a i ∧ e ≠ it) where
  mem := by simp
  obj := fun i h z b hb => by
    obtain ⟨⟨old, he⟩, ⟨o, ho, hc, hd⟩, _⟩ := z
    have e' : b = e ∨ b = it := by simpa using hb
    rcases e' with z | z
    · rw [z]; exact ⟨_, he, fun v q => nomatch q⟩
    · rw [z]; exact ⟨o, ho, fun v q => by rw [hd] at q; cases q⟩
  keep := fun i h h' z k => by
    obtain ⟨⟨old, he⟩, hi, hne⟩ := z
    exact ⟨⟨old, k e (by simp) _ he⟩, hi.at fun o q => k it (by simp) o q, hne⟩
  item := by
    intro X hP hw hK hc i pins s σ H E I hf st hg
    subst hP hw hK
    obtain ⟨he, hit, hne⟩ := st
    obtain ⟨xs, x, hq, hx⟩ := hg
    obtain ⟨its, rv, p, hz⟩ := I.tuple hq
    obtain ⟨u, hu, ru⟩ := rv.get hx
    have hul : its.toArray[i]? = some u := by simpa using hu
    have hlt : i < its.toArray.size := (Array.getElem?_eq_some_iff.mp hul).1
    refine wpAny_mono (enum_turn (elts := elts) (kk := kk) (tpos := tpos) (R := fun h => h.IsTupleIter it a (i + 1)) I (Draws.tuple (by exact I.ok.hd hc) it a hai its.toArray) hf he ⟨hit, (show s.heap.IsTuple a its.toArray from p)⟩ hlt hne (by simp [hne, hae.symm]) (x := x) (fun u' h' => ?_) (fun h h' hs sb => hs.1.at fun o q => (sb.2 it hne.symm).trans q)) (fun r s1 h => ?_) fun _ _ z => z
    · have e1 : u' = u := Option.some.inj (h'.symm.trans hul)
      rw [e1]
      exact ru
    · obtain ⟨u', er, q⟩ := h
      refine ⟨u', er, wpAny_mono q (fun _ s2 h2 => ?_) fun _ _ z => z⟩
      obtain ⟨v, H', I', rv', ⟨T, e1, e2, e3⟩, ⟨z1, z2⟩, z3⟩ := h2
      exact ⟨v, H', I', rv', ⟨T, x, e1, e2, e3, fun ys hy => by rw [I.tuple_inj hy hq]; exact hx⟩, ⟨z1, z2, hne⟩, z3⟩
  done := by
    intro X hP hw hK hc i pins s σ H E I hf st hg
    subst hP hw hK
    obtain ⟨⟨old, he⟩, hit, hne⟩ := st
    obtain ⟨xs, hq, hx⟩ := hg
    obtain ⟨its, rv, p, hz⟩ := I.tuple hq
    obtain ⟨f0, f1, f2, f3, f4, f5⟩ := hf it (by simp)
    have hl : i = its.toArray.size := by
      have := rv.length
      simp only [List.size_toArray]
      omega
    subst hl
    exact wpAny_pyNext_enum_endD (Draws.tuple (by exact I.ok.hd hc) it a hai its.toArray) he ⟨hit, (show s.heap.IsTuple a its.toArray from p)⟩ fun h' eb => ⟨rfl, I.turned (t' := s.toks) (fun b o hb q => eb b o hb q) f0 f1 f3 f4 f5⟩
  self := fun A i s Q E z hQ => by
    obtain ⟨⟨old, he⟩, _⟩ := z
    exact wpAny_pyIter_enum he hQ

/-! ### enumerate(row), enumerate(row, start=k) -/
/-- what is walked: a list or a tuple, counted from k0 -/
def rEnum (K : PySem.W.Frag) (k0 : Int) (R : It → Hp → Prop) : V → Hp → Prop := fun v H1 => ∃ a, v = .ref a ∧ (((∃ xs, SqL K H1 a xs) ∧ R (IteL K a k0) H1) ∨ ((∃ xs, SqT K H1 a xs) ∧ R (IteT K a k0) H1))
theorem enum_made {X : Cx} {pins : List (Addr × Obj)} {σ : L2.St} {H : Hp} {st : Shared} {E : Value → Shared → Prop} {elts : List Expr} {kk : Nat} {tpos : Pos} {R : It → Hp → Prop} {v : V} {u : Value} {k0 : Int} {f : Sem Value}
    (I : Inv X pins σ H st) (rv : RelV v u) (q : rEnum X.K k0 R v H)
    (hf : ∀ (ob : Obj) (Hs : Heap → Prop), Begins u ob Hs → Hs st.heap → ∀ Q : Value → Shared → Prop, (∀ h', IsEnum h' (st.heap.objs.size + 1) st.heap.objs.size k0 .none → h'.get? st.heap.objs.size = some ob → (∀ b o, st.heap.get? b = some o → h'.get? b = some o) → Q (.ref (st.heap.objs.size + 1)) { st with heap := h' }) →
      wpAny (model X.prog X.w) X.A f Q E st) :
    wpAny (model X.prog X.w) X.A f (fun itv s1 => wpAny (model X.prog X.w) X.A (pyIter itv) (PIE X pins σ (.Tuple elts kk tpos) R) E s1) E st := by
  obtain ⟨a, ev, q⟩ := q
  subst ev
  cases rv
  have big : ∀ b ∈ [st.heap.objs.size + 1, st.heap.objs.size], FpOk X pins H b := fun b hb => by
    have e' : b = st.heap.objs.size + 1 ∨ b = st.heap.objs.size := by simpa using hb
    have hle : st.heap.objs.size ≤ b := by
      rcases e' with z | z
      · rw [z]; exact Nat.le_add_right _ _
      · rw [z]; exact Nat.le_refl _
    exact I.fpOk hle (I.hok.fresh hle)
  have e0 : k0 + ((0 : Nat) : Int) = k0 := Int.add_zero _
  rcases q with ⟨⟨xs, hq⟩, q⟩ | ⟨⟨xs, hq⟩, q⟩
  · obtain ⟨its, _, pl, _⟩ := I.list hq
    have hl := pl.isList
    have hal : a < st.heap.objs.size := by
      obtain ⟨o, z, _⟩ := hl
      exact Heap.lt_size z
    refine hf _ _ (begins_list a its.toArray) hl _ fun h' he ho hk => wpAny_pyIter_enum he ?_
    exact ⟨st.heap.objs.size + 1, [st.heap.objs.size + 1, st.heap.objs.size], _, _, H, rfl, I.kept (t' := st.toks) hk, turn_enumL k0 a _ _ (Nat.ne_of_lt (Nat.lt_succ_of_lt hal)) (Nat.ne_of_lt hal), ⟨⟨.none, by rw [e0]; exact he⟩, ⟨_, ho, rfl, rfl⟩, Nat.succ_ne_self _⟩, big, q⟩
  · obtain ⟨its, _, pl, _⟩ := I.tuple hq
    have hl : st.heap.IsTuple a its.toArray := pl
    have hal : a < st.heap.objs.size := pl.lt
    refine hf _ _ (begins_tuple a its.toArray) hl _ fun h' he ho hk => wpAny_pyIter_enum he ?_
    exact ⟨st.heap.objs.size + 1, [st.heap.objs.size + 1, st.heap.objs.size], _, _, H, rfl, I.kept (t' := st.toks) hk, turn_enumT k0 a _ _ (Nat.ne_of_lt (Nat.lt_succ_of_lt hal)) (Nat.ne_of_lt hal), ⟨⟨.none, by rw [e0]; exact he⟩, ⟨_, ho, rfl, rfl⟩, Nat.succ_ne_self _⟩, big, q⟩
def iEnumR (K : PySem.W.Frag) (ta : TA) : TI := fun σ H R => ta σ H fun vs H1 => ∃ v, vs = [v] ∧ rEnum K 0 R v H1
def iEnumS (K : PySem.W.Frag) (ta tk : TA) : TI := fun σ H R => ta σ H fun vs H1 => tk σ H1 fun zs H2 => ∃ v k0, vs = [v] ∧ zs = [.int k0] ∧ -(2 ^ 63) ≤ k0 ∧ k0 < 2 ^ 63 ∧ rEnum K k0 R v H2
theorem pi_enumR {X : Cx} {e : Expr} {ta : TA} {p pos tpos : Pos} {elts : List Expr} {kk : Nat} (hg : Gl X "enumerate") (hm : X.mg "enumerate" = none) (ha : PA X [e] ta) (hs : starEach [e] X.env = [(false, eval e X.env)] := by rfl) :
    PI X (.Tuple elts kk tpos) (.Call (.Name "enumerate" p) [e] [] pos) (iEnumR X.K ta) := by
  refine ⟨fun pns st σ H R I0 h => ?_⟩
  refine Call_ (ld_blt I0 hg hm boot_enumerate (PyProof.Rows.callWith_type1 (thn (ha.run pos pns st σ H _ I0 h) fun us s1 ⟨vs, H1, I1, r1, q1⟩ => ?_) hs rfl))
  obtain ⟨v, e1, q⟩ := q1
  subst e1
  cases r1 with
  | cons r rr =>
    cases rr
    exact enum_made I1 r q fun ob Hs B h1 Q k => enum_begins1 B h1 k
/-- a built-in class called with keywords -/
theorem callWith_tyKw {M : Model} {A : Around} {E : Value → Shared → Prop} {st : Shared} {env : Env} {pos : Pos} {T : String} {e : Expr} {rest : List Expr} {kws : List Keyword} {Q : Value → Shared → Prop}
    (h : wpAny M A (spliced (backTo pos (starEach (e :: rest) env))) (fun vs s1 => wpAny M A (evalAll ((backToKw pos (keywordEach kws env)).map (·.2)))
      (fun ws s2 => wpAny M A (call (.type T) vs (((backToKw pos (keywordEach kws env)).filterMap (·.1)).zip ws)) Q E s2) E s1) E st)
    (he : backTo pos (starEach (e :: rest) env) = (false, eval e env) :: backTo pos (starEach rest env)) (hpl : (backTo pos (starEach (e :: rest) env)).any (·.1) = false)
    (hall : (backToKw pos (keywordEach kws env)).all (·.1.isSome) = true) (hkw : (backToKw pos (keywordEach kws env)).any (·.1.isNone) = false) :
    wpAny M A (callWith pos (.type T) [] (backTo pos (starEach (e :: rest) env)) (backToKw pos (keywordEach kws env))) Q E st := by
  have h2 : wpAny M A (evalArgs (.type T) true (backTo pos (starEach (e :: rest) env)) (backToKw pos (keywordEach kws env))) (fun a s1 => wpAny M A (call (.type T) ([] ++ a.pos) a.kw) Q E s1) E st := by
    rw [he] at h ⊢
    exact PyProof.Rows.evalArgs_kwB hall h
  unfold callWith
  refine wpAny_bind (wpAny_holding (wpAny_mono h2 (fun a s1 h1 => wpAny_bind (wpAny_standAt ?_)) fun _ _ z => z))
  simp only [hpl, hkw, Bool.or_false]
  exact wpAny_bind (wpAny_pure (wpAny_bind (wpAny_mono h1 (fun r s2 hr => wpAny_bind (wpAny_holding (wpAny_point (wpAny_pure hr)))) fun _ _ z => z)))
theorem pi_enumS {X : Cx} {e : Expr} {kws : List Keyword} {ta tk : TA} {p pos tpos : Pos} {elts : List Expr} {kk : Nat} (hg : Gl X "enumerate") (hm : X.mg "enumerate" = none) (ha : PA X [e] ta) (hk : PK X kws tk)
    (he : backTo pos (starEach [e] X.env) = (false, eval e X.env) :: backTo pos (starEach [] X.env) := by rfl) (hpl : (backTo pos (starEach [e] X.env)).any (·.1) = false := by rfl)
    (hall : (backToKw pos (keywordEach kws X.env)).all (·.1.isSome) = true := by rfl) (hnone : (backToKw pos (keywordEach kws X.env)).any (·.1.isNone) = false := by rfl) (hks : (backToKw pos (keywordEach kws X.env)).filterMap (·.1) = [Str.ofString "start"] := by rfl) :
    PI X (.Tuple elts kk tpos) (.Call (.Name "enumerate" p) [e] kws pos) (iEnumS X.K ta tk) := by
  refine ⟨fun pns st σ H R I0 h => ?_⟩
  refine wpAny_Call_Name_kw (ld_blt I0 hg hm boot_enumerate ?_)
  refine callWith_tyKw (thn (ha.run pos pns st σ H _ I0 h) fun us s1 ⟨vs, H1, I1, r1, q1⟩ => thn (hk.run pos pns s1 σ H1 _ I1 q1) fun ws s2 ⟨zs, H2, I2, r2, q2⟩ => ?_) he hpl hall hnone
  rw [hks]
  obtain ⟨v, k0, e1, e2, h1, h2, q⟩ := q2
  subst e1 e2
  cases r1 with
  | cons r rr =>
    cases rr
    cases r2 with
    | cons z zz =>
      cases zz
      obtain ⟨tk0, rfl⟩ := z
      exact enum_made I2 r q fun ob Hs B h3 Q k => enum_begins_start B h3 h1 h2 fun h' a b _ d => k h' a b d
end Tb
end

section
set_option Elab.async false
set_option linter.all false
set_option maxRecDepth 100000
set_option maxHeartbeats 1000000
/-! Toss base 4: built-ins over data, comprehensions, defs. -/
namespace Tb
open PySem PySem.Spec PyProof.Rows L2 Evl

theorem bb_int : bootBuiltins "int" = some (.type "int") := by decide +kernel
theorem bb_bool : bootBuiltins "bool" = some (.type "bool") := by decide +kernel
theorem bb_str : bootBuiltins "str" = some (.type "str") := by decide +kernel
theorem bb_list : bootBuiltins "list" = some (.type "list") := by decide +kernel
theorem bb_tuple : bootBuiltins "tuple" = some (.type "tuple") := by decide +kernel
theorem bb_dict : bootBuiltins "dict" = some (.type "dict") := by decide +kernel
theorem bb_len : bootBuiltins "len" = some (.builtin "len") := by decide +kernel
theorem bb_max : bootBuiltins "max" = some (.builtin "max") := by decide +kernel
theorem bb_min : bootBuiltins "min" = some (.builtin "min") := by decide +kernel
theorem bb_abs : bootBuiltins "abs" = some (.builtin "abs") := by decide +kernel
theorem bb_sum : bootBuiltins "sum" = some (.builtin "sum") := by decide +kernel
theorem bb_isinstance : bootBuiltins "isinstance" = some (.builtin "isinstance") := by decide +kernel
/-- the built-in names that a module does not name anew -/
structure Bl (mg : Str → Option Value) : Prop where
  int : mg "int" = none
  bool : mg "bool" = none
  str : mg "str" = none
  list : mg "list" = none
  tuple : mg "tuple" = none
  dict : mg "dict" = none
  len : mg "len" = none
  max : mg "max" = none
  min : mg "min" = none
  isinstance : mg "isinstance" = none
  enumerate : mg "enumerate" = none
  reversed : mg "reversed" = none
  range : mg "range" = none

section
variable {K : PySem.W.Frag} {σ : L2.St} {H H' : Hp} {ta tb te tx tl : TE} {t u : TT} {d e z : PyData} {ds es : List PyData} {r : R2} {v : V}
/-! ### isinstance -/
def tyD : PyData → String
  | .none => "NoneType"
  | .bool _ => "bool"
  | .int _ => "int"
  | .str _ => "str"
  | .list _ => "list"
  | .tuple _ => "tuple"
  | .dict _ => "dict"
theorem tyx_of (h : Dp K H v d) : TyX K H v (.type (tyD d)) := by
  cases h with
  | non => exact .base .non
  | bl b => exact .base (.bl b)
  | int i => exact .base (.int i)
  | str x => exact .base (.str x)
  | lst h a =>
    rcases h with (h | ⟨o, h⟩) | ⟨o, its, n, hk, hc, _⟩
    · exact .base (.lst h)
    · exact .base (.frz h)
    · exact .kList hk hc
  | tup h a =>
    rcases h with (h | ⟨o, h⟩) | ⟨o, its, n, hk, hc, _⟩
    · exact .base (.tup h)
    · exact .fTuple h
    · exact .kTuple hk hc
theorem d_isi {c : String} {b : Bool} (h : EvD K te σ H d) (hb : kitB (tyD d) c = some b) : EvD K (tCB (rIsi K) (tCons te (tCons (tC (.ty c)) tNil))) σ H (.bool b) := fun H1 x Q q =>
  h H1 x _ fun v G H2 g hd => ⟨v, .ty c, _, _, b, rfl, .ty c, tyx_of (dp_mono g.g2 hd), kit_ty hb, q _ G H2 g (.bl b)⟩
theorem d_isi2 {c1 c2 : String} {b1 b2 : Bool} (h : EvD K te σ H d) (h1 : kitB (tyD d) c1 = some b1) (h2 : kitB (tyD d) c2 = some b2) :
    EvD K (tCB (rIsiT K) (tCons te (tCons (tTup (tCons (tC (.ty c1)) (tCons (tC (.ty c2)) tNil))) tNil))) σ H (.bool (b1 || b2)) := fun H1 x Q q =>
  h H1 x _ fun v G H2 g hd => ⟨by show 2 ≤ sizeLine; decide, fun p hp => ⟨v, p, [.ty c1, .ty c2], _, [.type c1, .type c2], b1 || b2, rfl, upd_same, .cons (.ty c1) (.cons (.ty c2) .nil), tyx_of (dp_mono (g.g2.trans (Ex.new hp)) hd),
    kitAny_cons (kit_ty h1) (fun z => by
      subst z
      exact kitAny_cons (kit_ty h2) (fun z => by
        subst z
        exact kitAny_nil) fun z => by rw [z]; rfl) (fun z => by rw [z]; rfl), q _ G _ (g.trans (Gr.mut g.g2 hp)) (.bl _)⟩⟩
theorem kit_int : kitB (tyD d) "int" = some (match d with | .int _ => true | .bool _ => true | _ => false) := by
  cases d
  · exact (show kitB "NoneType" "int" = some false by decide +kernel)
  · exact (show kitB "bool" "int" = some true by decide +kernel)
  · exact (show kitB "int" "int" = some true by decide +kernel)
  · exact (show kitB "str" "int" = some false by decide +kernel)
  · exact (show kitB "list" "int" = some false by decide +kernel)
  · exact (show kitB "tuple" "int" = some false by decide +kernel)
  · exact (show kitB "dict" "int" = some false by decide +kernel)
theorem kit_bool : kitB (tyD d) "bool" = some (match d with | .bool _ => true | _ => false) := by
  cases d
  · exact (show kitB "NoneType" "bool" = some false by decide +kernel)
  · exact (show kitB "bool" "bool" = some true by decide +kernel)
  · exact (show kitB "int" "bool" = some false by decide +kernel)
  · exact (show kitB "str" "bool" = some false by decide +kernel)
  · exact (show kitB "list" "bool" = some false by decide +kernel)
  · exact (show kitB "tuple" "bool" = some false by decide +kernel)
  · exact (show kitB "dict" "bool" = some false by decide +kernel)
theorem kit_str : kitB (tyD d) "str" = some (match d with | .str _ => true | _ => false) := by
  cases d
  · exact (show kitB "NoneType" "str" = some false by decide +kernel)
  · exact (show kitB "bool" "str" = some false by decide +kernel)
  · exact (show kitB "int" "str" = some false by decide +kernel)
  · exact (show kitB "str" "str" = some true by decide +kernel)
  · exact (show kitB "list" "str" = some false by decide +kernel)
  · exact (show kitB "tuple" "str" = some false by decide +kernel)
  · exact (show kitB "dict" "str" = some false by decide +kernel)
theorem kit_list : kitB (tyD d) "list" = some (match d with | .list _ => true | _ => false) := by
  cases d
  · exact (show kitB "NoneType" "list" = some false by decide +kernel)
  · exact (show kitB "bool" "list" = some false by decide +kernel)
  · exact (show kitB "int" "list" = some false by decide +kernel)
  · exact (show kitB "str" "list" = some false by decide +kernel)
  · exact (show kitB "list" "list" = some true by decide +kernel)
  · exact (show kitB "tuple" "list" = some false by decide +kernel)
  · exact (show kitB "dict" "list" = some false by decide +kernel)
theorem kit_tuple : kitB (tyD d) "tuple" = some (match d with | .tuple _ => true | _ => false) := by
  cases d
  · exact (show kitB "NoneType" "tuple" = some false by decide +kernel)
  · exact (show kitB "bool" "tuple" = some false by decide +kernel)
  · exact (show kitB "int" "tuple" = some false by decide +kernel)
  · exact (show kitB "str" "tuple" = some false by decide +kernel)
  · exact (show kitB "list" "tuple" = some false by decide +kernel)
  · exact (show kitB "tuple" "tuple" = some true by decide +kernel)
  · exact (show kitB "dict" "tuple" = some false by decide +kernel)

/-! ### len, an item, list, tuple, max, min -/
theorem rcd_len {b : Bool} : RCD K (fun xs H Q => ∃ p ys, xs = [V.ref p] ∧ (SqL K H p ys ∨ SqT K H p ys) ∧ Q (.int ys.length) H) [rows b ds] H (.int ds.length) := fun vs H1 x hd Q q => by
  cases hd with
  | cons h h0 =>
    cases h0
    obtain ⟨a, xs, rfl, hr, ha⟩ := row_of h
    refine ⟨a, xs, rfl, row_mono x hr, ?_⟩
    rw [ha.length]
    exact q _ H H1 (.refl x) (.int _)
theorem at_dp {xs : List V} {i : Int} (h : DpAll K H xs ds) (ha : atI ds i = some e) : ∃ v, atI xs i = some v ∧ Dp K H v e := by
  unfold atI at ha ⊢
  rw [h.length]
  cases q : ixN ds.length i with
  | none =>
    rw [q] at ha
    cases ha
  | some j =>
    rw [q] at ha
    exact h.get' ha
/-- an item of a row -/
def rIxR (K : PySem.W.Frag) : R2 := fun x y H Q => rIxL K x y H Q ∨ rIxT K x y H Q
theorem ix_row {X : Cx} : IxR X (rIxR X.K) := ix_list.or ix_tup
theorem rd_ix {b : Bool} {i : Int} (ha : atI ds i = some e) : RD K (rIxR K) (rows b ds) (.int i) H e := fun x y H1 ex hx hy Q q => by
  obtain ⟨a, xs, rfl, hr, hd⟩ := row_of hx
  obtain ⟨w, h1, h2⟩ := at_dp hd ha
  have hy := hy.int_of
  subst hy
  rcases hr with hr | hr
  · exact .inl ⟨a, xs, i, w, rfl, rfl, ex_l ex hr, h1, q _ H H1 (.refl ex) h2⟩
  · exact .inr ⟨a, xs, i, w, rfl, rfl, ex_t ex hr, h1, q _ H H1 (.refl ex) h2⟩
theorem rcd_tuple {b : Bool} : RCD K (fun xs H Q => ∃ p ys, xs = [V.ref p] ∧ ((SqL K H p ys ∧ ∀ l, H l = none → Q (.ref l) (upd H l (.tup ys))) ∨ (SqT K H p ys ∧ Q (.ref p) H))) [rows b ds] H (.tuple ds) := fun vs H1 x hd Q q => by
  cases hd with
  | cons h h0 =>
    cases h0
    cases b with
    | true =>
      obtain ⟨a, xs, rfl, hr, ha⟩ := Dp.lst_of (show Dp K H _ (.list ds) from h)
      exact ⟨a, xs, rfl, .inl ⟨ex_l x hr, fun l hl => q _ _ _ (Gr.new x hl) (.tup (st_of upd_same) (dpa_mono (Ex.new (fresh_back x hl)) ha))⟩⟩
    | false =>
      obtain ⟨a, xs, rfl, hr, ha⟩ := Dp.tup_of (show Dp K H _ (.tuple ds) from h)
      exact ⟨a, xs, rfl, .inr ⟨ex_t x hr, q _ H H1 (.refl x) (.tup hr ha)⟩⟩
theorem rcdl_list {b : Bool} : RCDL K (fun xs H Q => ∃ p ys, xs = [V.ref p] ∧ (SqL K H p ys ∨ SqT K H p ys) ∧ ∀ l, H l = none → Q (.ref l) (upd H l (.lst ys))) [rows b ds] H ds := fun vs H1 x hd Q q => by
  cases hd with
  | cons h h0 =>
    cases h0
    obtain ⟨a, xs, rfl, hr, ha⟩ := row_of h
    exact ⟨a, xs, rfl, row_mono x hr, fun l hl => q l xs H _ (fresh_back x hl) hl (Gr.mut x hl) upd_same ha⟩
theorem rcd_min2 {i j : Int} : RCD K (fun xs H Q => ∃ i j, xs = [V.int i, .int j] ∧ Q (.int (if j < i then j else i)) H) [.int i, .int j] H (.int (min i j)) := fun vs H1 x hd Q q => by
  have hv := DpAll.ints (ns := [i, j]) hd
  refine ⟨i, j, hv, ?_⟩
  rw [show (if j < i then j else i) = min i j by split <;> omega]
  exact q _ H H1 (.refl x) (.int _)
theorem rcd_max2 {i j : Int} : RCD K (fun xs H Q => ∃ i j, xs = [V.int i, .int j] ∧ Q (.int (if j > i then j else i)) H) [.int i, .int j] H (.int (max i j)) := fun vs H1 x hd Q q => by
  have hv := DpAll.ints (ns := [i, j]) hd
  refine ⟨i, j, hv, ?_⟩
  rw [show (if j > i then j else i) = max i j by split <;> omega]
  exact q _ H H1 (.refl x) (.int _)
theorem rcd_int1 {i : Int} : RCD K (fun xs H Q => (∃ i, xs = [V.int i] ∧ Q (.int i) H) ∨ ∃ k, xs = [V.bl k] ∧ Q (.int (if k then 1 else 0)) H) [.int i] H (.int i) := fun vs H1 x hd Q q => .inl ⟨i, DpAll.ints (ns := [i]) hd, q _ H H1 (.refl x) (.int _)⟩
theorem rcd_intB {b : Bool} : RCD K (fun xs H Q => (∃ i, xs = [V.int i] ∧ Q (.int i) H) ∨ ∃ k, xs = [V.bl k] ∧ Q (.int (if k then 1 else 0)) H) [.bool b] H (.int (if b then 1 else 0)) := fun vs H1 x hd Q q => by
  cases hd with
  | cons h h0 =>
    cases h0
    rw [h.bl_of]
    exact .inr ⟨b, rfl, q _ H H1 (.refl x) (.int _)⟩
end
/-- the greatest of some ints, d where there are none -/
def maxOf (d : Int) : List Int → Int
  | [] => d
  | n :: ns => ns.foldl max n
def rMaxDf (K : PySem.W.Frag) : List V → List V → Hp → VK → Prop := fun vs zs H Q => ∃ a ns d0, vs = [.ref a] ∧ zs = [.int d0] ∧ SqT K H a (ns.map V.int) ∧ Q (.int (maxOf d0 ns)) H
theorem alike_ints (ns : List Int) : PySem.W.AlikeAll (ns.map .int) := by
  refine ⟨fun x hx y hy => ?_, fun x hx => ?_⟩
  · obtain ⟨i, _, rfl⟩ := List.mem_map.mp hx
    obtain ⟨j, _, rfl⟩ := List.mem_map.mp hy
    rfl
  · obtain ⟨i, _, rfl⟩ := List.mem_map.mp hx
    exact fun z => nomatch z
theorem depth_ints : ∀ ns : List Int, PyData.depthAll (ns.map .int) ≤ 1
  | [] => by simp [PyData.depthAll]
  | n :: ns => by
    have h := depth_ints ns
    simp only [List.map_cons, PyData.depthAll, PyData.depth]
    omega
theorem cr_maxDf {X : Cx} (hc : X.calm = true) (hu : X.A.units + 64 < cLine) : CallRK X (.builtin "max") [Str.ofString "default"] (rMaxDf X.K) := by
  intro pns st σ H vs zs us ws Q I r r2 h
  obtain ⟨a, ns, d0, rfl, rfl, hs, q⟩ := h
  obtain ⟨its, rv, ht, _⟩ := I.tuple hs
  obtain ⟨as, hr⟩ := Dp.readsAll I (ns.map .int) _ its (DpAll.of_ints ns) rv
  rw [Vals.ref1 r]
  cases r2 with
  | cons z zz =>
    cases zz
    obtain ⟨tk0, rfl⟩ := z
    have hd := depth_ints ns
    refine PySem.W.max_tuple_default (I.ok.hd hc) (show st.heap.IsTuple a its.toArray from ht) (by simpa using hr) (alike_ints ns) (by omega) (fun h0 h' tk hk => ?_) fun y ys i v h' tk bs hy hv hr' hk => ?_
    · cases ns with
      | nil => exact ⟨.int d0, H, I.kept hk, ⟨_, rfl⟩, q⟩
      | cons n ns => cases h0
    · cases ns with
      | nil => cases hy
      | cons n ns =>
        rw [List.map_cons] at hy
        injection hy with e1 e2
        subst e1 e2
        rw [PySem.W.maxD_ints] at hr'
        cases hr' with
        | int _ t => exact ⟨.int _, H, I.kept hk, ⟨_, rfl⟩, q⟩
section
variable {K : PySem.W.Frag} {σ : L2.St} {H H' : Hp} {te tx tl : TE} {t : TT} {d e z : PyData} {ds es : List PyData} {g : TG} {vs : List Nat}
theorem d_maxDf {ns : List Int} {d0 : Int} (h : EvD K te σ H (.tuple (ns.map .int))) : EvD K (tCKw (rMaxDf K) (tCons te tNil) (tCons (tC (.int d0)) tNil)) σ H (.int (maxOf d0 ns)) := fun H1 x Q q =>
  h H1 x _ fun v G H2 g hd => by
    obtain ⟨a, xs, rfl, hs, ha⟩ := Dp.tup_of hd
    rw [ha.ints] at hs
    exact ⟨a, ns, d0, rfl, rfl, ex_t g.g2 hs, q _ G H2 g (.int _)⟩

/-! ### comprehensions over a row -/
theorem dl_lc {b : Bool} (f : PyData → Option PyData) (h : EvD K tl σ H (rows b ds)) (hl : ds.length ≤ 40000)
    (hb : ∀ (d : PyData), d ∈ ds → ∀ (x : V) (G H' : Hp), Ex H G → Ex G H' → Dp K G x d → ∀ Q : L2.St → Hp → Prop, (∀ σ2, wipe σ2 vs = wipe σ vs → EvT t σ2 G (f d).isSome → (∀ e, f d = some e → EvD K te σ2 G e) → Q σ2 H') → g x (wipe σ vs) H' Q) :
    EvDL K (tLc (iRow K tl) g t te vs) σ H (ds.filterMap f) := fun H1 x Q q => h H1 x _ fun v G1 H2 g1 hd => by
  obtain ⟨a, xs, rfl, hr, ha⟩ := row_of hd
  have hxl := ha.length
  -- the word: what is known for good grows, the list at D stands apart
  let Pv : Addr → Nat → Hp → Prop := fun Dl i H' => ∃ G ys, G Dl = none ∧ Gr G1 H2 G H' ∧ H' Dl = some (.lst ys) ∧ DpAll K G ys ((ds.take i).filterMap f)
  have h0 : ∀ Dl, H2 Dl = none → Pv Dl 0 (upd H2 Dl (.lst [])) := fun Dl hD => ⟨G1, [], fresh_back g1.g2 hD, Gr.mut g1.g2 hD, upd_same, by simpa using DpAll.nil⟩
  have fin : ∀ Dl, H2 Dl = none → ∀ H', Pv Dl ds.length H' → Q (.ref Dl) H' := fun Dl hD H' ⟨G, ys, a1, a2, a3, a4⟩ => by
    rw [List.take_length] at a4
    exact q Dl ys G H' a1 (fresh_back g1.h12 hD) (g1.trans a2) a3 a4
  have turn : ∀ Dl, H2 Dl = none → ∀ i y H', xs[i]? = some y → Pv Dl i H' → g y (wipe σ vs) H' fun σ2 H2' => wipe σ2 vs = wipe σ vs ∧ t σ2 H2' fun b H3 =>
      if b = true then te σ2 H3 fun w H4 => ∃ acc, H4 Dl = some (.lst acc) ∧ acc.length < sizeLine ∧ Pv Dl (i + 1) (upd H4 Dl (.lst (acc ++ [w]))) else Pv Dl (i + 1) H3 := fun Dl hD i y H' hy p => by
    obtain ⟨G, ys, a1, a2, a3, a4⟩ := p
    obtain ⟨d, hdi, hdy⟩ := ha.get hy
    have hmem : d ∈ ds := List.mem_of_getElem? hdi
    have hi : i < ds.length := (List.getElem?_eq_some_iff.mp hdi).1
    refine hb d hmem y G H' (g1.hg.trans a2.hg) a2.g2 (dp_mono a2.hg hdy) _ fun σ2 hw ht he => ⟨hw, ht H' a2.g2 _ fun H3 e3 => ?_⟩
    have htk : (ds.take (i + 1)).filterMap f = (ds.take i).filterMap f ++ (f d).toList := by
      rw [List.take_add_one, hdi, List.filterMap_append]
      cases hf : f d <;> simp [hf]
    cases hf : f d with
    | none =>
      show Pv Dl (i + 1) H3
      refine ⟨G, ys, a1, ⟨a2.hg, a2.g2.trans e3, a2.h12.trans e3, a2.sep⟩, e3 _ _ a3, ?_⟩
      rw [htk, hf]
      simpa using a4
    | some e =>
      show te σ2 H3 fun w H4 => ∃ acc, H4 Dl = some (.lst acc) ∧ acc.length < sizeLine ∧ Pv Dl (i + 1) (upd H4 Dl (.lst (acc ++ [w])))
      refine he e hf H3 (a2.g2.trans e3) _ fun w G4 H4 g4 hw4 => ?_
      have hD4 : H4 Dl = some (.lst ys) := g4.h12 _ _ (e3 _ _ a3)
      have hG4 : G4 Dl = none := g4.sep Dl a1 (by rw [e3 _ _ a3]; exact fun z => nomatch z)
      have hlen : ys.length ≤ 40000 := by
        rw [a4.length]
        exact Nat.le_trans (List.length_filterMap_le _ _) (by rw [List.length_take]; omega)
      refine ⟨ys, hD4, sz_lt (by omega), G4, ys ++ [w], hG4, ⟨a2.hg.trans g4.hg, fun b u hu => ?_, Ex.mut ((a2.h12.trans e3).trans g4.h12) hD, fun b h1 h2 => ?_⟩, upd_same, ?_⟩
      · rw [upd_ne (ne_of_none hu hG4)]
        exact g4.g2 b u hu
      · refine g4.sep b (a2.sep b h1 h2) fun z => ?_
        cases q2 : H2 b with
        | none => exact h2 q2
        | some o =>
          rw [(a2.h12.trans e3) b o q2] at z
          cases z
      · rw [htk, hf]
        exact (dpa_mono g4.hg a4).append (.one hw4)
  have Gstay : ∀ Dl i H', Pv Dl i H' → Ex G1 H' := fun Dl i H' ⟨G, ys, _, a2, _⟩ => a2.hg.trans a2.g2
  refine ⟨a, rfl, ?_⟩
  rcases hr with hr | hr
  · exact .inl ⟨⟨xs, ex_l g1.g2 hr⟩, fun Dl hD => lc_list (xs := xs) (Pv Dl) (h0 Dl hD) (fun i H' _ p => ex_l (Gstay Dl i H' p) hr) (turn Dl hD) (by rw [hxl]; exact fin Dl hD)⟩
  · exact .inr ⟨⟨xs, ex_t g1.g2 hr⟩, fun Dl hD => lc_tup (xs := xs) (Pv Dl) (h0 Dl hD) (fun i H' _ p => ex_t (Gstay Dl i H' p) hr) (turn Dl hD) (by rw [hxl]; exact fin Dl hD)⟩
theorem et_yes : EvT tYes σ H true := fun H1 _ _ q => q H1 (Ex.refl H1)
end

/-! ### a def by its body -/
theorem has_mk {P : Program} {w : World} {K : PySem.W.Frag} {mg : Str → Option Value} {base : Heap} {CX : CXT} {x qual : Str} {st : Stmt} {f : Addr} {fd : FuncData} {k : Nat} {N ps : List Str} {sp : Sp}
    (F : FunD K x qual (defArgs st) (defBody st) (defScope st) [] [] f fd) (hm : mg x = some (.ref f)) (S : FnScope N ps (defScope st)) (len : ∀ vs H Q E, sp vs H Q E → vs.length = ps.length)
    (h : ∀ (kV doc pm : Value) (an : Option Addr) (cdv ct : Value) (us : List Value), us.length = ps.length → bindArgs (PySem.W.fnOf x qual (defArgs st) (defBody st) (defScope st) .none kV doc pm an cdv ct) ⟨us, []⟩ = pure (ps.zip us))
    (body : ∀ (cdv : Value) (A : Around) (outer : List Env) (s : Shared) (H : Hp) (vs : List V) (Q : VK) (E : XK), Room k (A.deeper (envOfC qual (defScope st) s.heap.objs.size f cdv)) → sp vs H Q E →
      ∃ t, PSs (cxOf CX P w K mg base N qual (defScope st) f cdv A outer s H E).nox (defBody st) t ∧ t { nx := fun _ H' => Q .non H', rt := Q } (start N vs) H) :
    Has P w K mg base CX x (k + 1) ps [] sp :=
  has_of F hm (F.ok S len fun cdv A outer s H vs Q E hr hs => by
    obtain ⟨t, h1, h2⟩ := body cdv A outer s H vs Q E hr hs
    exact ⟨t, h1.nox, h2⟩) h
end Tb
end

section
set_option Elab.async false
set_option linter.all false
set_option maxRecDepth 100000
set_option maxHeartbeats 1000000
/-! Toss base 5: pairs unpacked, loops over enumerate, reversed, range. -/
namespace Tb
open PySem PySem.Spec PyProof.Rows L2 Evl

section
variable {K : PySem.W.Frag} {σ : L2.St} {B H H' : Hp} {ta tb te tx : TE} {t u : TT} {d e z : PyData} {ds es : List PyData} {D : Ends} {tu tw tz : TS} {g : TG} {b : Bool} {v : V}
theorem t_test {c : Bool} (h : EvD K te σ H (.bool c)) : EvT (tTest te) σ H c := fun H1 x Q q => h H1 x _ fun v G H2 g h2 => ⟨c, h2.bl_of, q H2 g.h12⟩
/-- (i, j) = a pair that B knows -/
theorem g_pairB {i j : Nat} {Q : L2.St → Hp → Prop} (x : Ex B H) (h : Dp K B v (rows b [d, e])) (k : ∀ y w, Dp K B y d → Dp K B w e → Q ((σ.set i (some y)).set j (some w)) H) : gRow K 2 (gCons (gName i) (gCons (gName j) gNil)) v σ H Q := by
  obtain ⟨a, xs, e1, hr, ha⟩ := row_of h
  cases ha with
  | cons h1 a1 =>
    cases a1 with
    | cons h2 a2 =>
      cases a2
      exact ⟨a, _, e1, row_mono x hr, rfl, _, _, rfl, _, _, rfl, rfl, k _ _ h1 h2⟩
theorem qd_pair {i j : Nat} (x : Ex B H) (h : EvD K te σ B (rows b [d, e])) (k : ∀ y w G H1, Gr B H G H1 → Dp K G y d → Dp K G w e → tz D ((σ.set i (some y)).set j (some w)) H1) :
    tSeq (tAsg te (gRow K 2 (gCons (gName i) (gCons (gName j) gNil)))) tz D σ H := h H x _ fun v G H1 g hd => g_pairB g.g2 hd fun y w hy hw => k y w G H1 g hy hw

/-! ### for i, x in enumerate(row, k0) -/
theorem walk_enumL {a : Addr} {k0 : Int} {xs : List V} : Walk (IteL K a k0) xs.length (fun H => SqL K H a xs) (fun i H v H' => ∃ T x, v = .ref T ∧ H T = none ∧ H' = upd H T (.tup [.int (k0 + (i : Nat)), x]) ∧ xs[i]? = some x) :=
  ⟨fun i _ hi q => ⟨xs, xs[i], q, by simp [hi]⟩, fun _ q => ⟨xs, q, rfl⟩, fun i H v H' _ q y => by
    obtain ⟨T, x, h1, h2, h3, h4⟩ := y
    exact ⟨T, x, h1, h2, h3, h4 xs q⟩⟩
theorem walk_enumT {a : Addr} {k0 : Int} {xs : List V} : Walk (IteT K a k0) xs.length (fun H => SqT K H a xs) (fun i H v H' => ∃ T x, v = .ref T ∧ H T = none ∧ H' = upd H T (.tup [.int (k0 + (i : Nat)), x]) ∧ xs[i]? = some x) :=
  ⟨fun i _ hi q => ⟨xs, xs[i], q, by simp [hi]⟩, fun _ q => ⟨xs, q, rfl⟩, fun i H v H' _ q y => by
    obtain ⟨T, x, h1, h2, h3, h4⟩ := y
    exact ⟨T, x, h1, h2, h3, h4 xs q⟩⟩
theorem for_enum {k0 : Int} {a c : Nat} (hd : Dp K B v (rows b ds)) (Pv : Nat → L2.St → Hp → Prop) (h0 : Pv 0 σ H) (e : Ex B H) (hG : ∀ i σ' H', i ≤ ds.length → Pv i σ' H' → Ex B H')
    (hs : ∀ (i : Nat) d x σ' H' H2, ds[i]? = some d → Dp K B x d → Pv i σ' H' → Ex H' H2 → tu { D with nx := Pv (i + 1), ct := Pv (i + 1), bk := D.nx } ((σ'.set a (some (.int (k0 + (i : Int))))).set c (some x)) H2)
    (hn : ∀ σ' H', Pv ds.length σ' H' → D.nx σ' H') :
    rEnum K k0 (fun J H1 => ∃ W : Nat → Nat → L2.St → Hp → Prop, (∃ m, W 0 m σ H1) ∧ ∀ i m σ H, W i m σ H → (J.stop i H ∧ D.nx σ H) ∨ (J.go i H ∧ ∃ N : L2.St → Hp → Prop, (∀ σ' H', N σ' H' → ∃ m', m' < m ∧ W (i + 1) m' σ' H') ∧
      ∀ x H', J.yld i H x H' → gRow K 2 (gCons (gName a) (gCons (gName c) gNil)) x σ H' fun σ2 H2 => tu { D with nx := N, ct := N, bk := D.nx } σ2 H2)) v H := by
  obtain ⟨ad, xs, rfl, hr, ha⟩ := row_of hd
  have hl := ha.length
  have turn : ∀ (i : Nat) (y : V) (σ' : L2.St) (H1 H1' : Hp), i < xs.length → Pv i σ' H1 → (∃ T x, y = .ref T ∧ H1 T = none ∧ H1' = upd H1 T (.tup [.int (k0 + (i : Nat)), x]) ∧ xs[i]? = some x) →
      gRow K 2 (gCons (gName a) (gCons (gName c) gNil)) y σ' H1' fun σ2 H2 => tu { D with nx := Pv (i + 1), ct := Pv (i + 1), bk := D.nx } σ2 H2 := by
    rintro i y σ' H1 H1' hi p ⟨T, x, rfl, hT, rfl, hx⟩
    obtain ⟨d, h1, h2⟩ := ha.get hx
    exact ⟨T, [.int (k0 + (i : Nat)), x], rfl, .inr (st_of upd_same), rfl, _, _, rfl, _, _, rfl, rfl, hs i d x σ' H1 _ h1 h2 p (Ex.new hT)⟩
  refine ⟨ad, rfl, ?_⟩
  rcases hr with hr | hr
  · exact .inl ⟨⟨xs, ex_l e hr⟩, for_it walk_enumL Pv h0 (fun i σ' H' hi p => ex_l (hG i σ' H' (by omega) p) hr) turn (by rw [hl]; exact hn)⟩
  · exact .inr ⟨⟨xs, ex_t e hr⟩, for_it walk_enumT Pv h0 (fun i σ' H' hi p => ex_t (hG i σ' H' (by omega) p) hr) turn (by rw [hl]; exact hn)⟩
/-- over a row at the j-th slot -/
theorem sd_forE {j a c : Nat} (e : Ex B H) (hd : Dp K B v (rows b ds)) (hv : σ[j]? = some (some v)) (Pv : Nat → L2.St → Hp → Prop) (h0 : Pv 0 σ H) (hG : ∀ i σ' H', i ≤ ds.length → Pv i σ' H' → Ex B H')
    (hs : ∀ (i : Nat) d x σ' H' H2, ds[i]? = some d → Dp K B x d → Pv i σ' H' → Ex H' H2 → tu { D with nx := Pv (i + 1), ct := Pv (i + 1), bk := D.nx } ((σ'.set a (some (.int (0 + (i : Int))))).set c (some x)) H2)
    (hn : ∀ σ' H', Pv ds.length σ' H' → D.nx σ' H') : tFor (iEnumR K (tCons (tVar j) tNil)) (gRow K 2 (gCons (gName a) (gCons (gName c) gNil))) tu D σ H :=
  ⟨_, hv, _, rfl, for_enum hd Pv h0 e hG hs hn⟩
theorem qd_forE {j a c : Nat} (e : Ex B H) (hd : Dp K B v (rows b ds)) (hv : σ[j]? = some (some v)) (Pv : Nat → L2.St → Hp → Prop) (h0 : Pv 0 σ H) (hG : ∀ i σ' H', i ≤ ds.length → Pv i σ' H' → Ex B H')
    (hs : ∀ (i : Nat) d x σ' H' H2, ds[i]? = some d → Dp K B x d → Pv i σ' H' → Ex H' H2 → tu { D with nx := Pv (i + 1), ct := Pv (i + 1), bk := tz D } ((σ'.set a (some (.int (0 + (i : Int))))).set c (some x)) H2)
    (hn : ∀ σ' H', Pv ds.length σ' H' → tz D σ' H') : tSeq (tFor (iEnumR K (tCons (tVar j) tNil)) (gRow K 2 (gCons (gName a) (gCons (gName c) gNil))) tu) tz D σ H := sd_forE (D := { D with nx := tz D }) e hd hv Pv h0 hG hs hn
end
end Tb
end

section
set_option Elab.async false
set_option linter.all false
set_option maxRecDepth 100000
set_option maxHeartbeats 1000000
/-! Toss towers: towers as data, comprehensions and loops over them; defs with a default. -/
namespace Tb
open PySem PySem.Spec PyProof.Rows L2 Evl

abbrev Tw := List (Int × Int)
def prD (c : Bool) (p : Int × Int) : PyData := rows c [.int p.1, .int p.2]
/-- towers as data: a row (b: a list) of pairs (c: lists) -/
def twD (b c : Bool) (ts : Tw) : PyData := rows b (ts.map (prD c))
section
variable {K : PySem.W.Frag} {σ : L2.St} {B H H' : Hp} {ta tb te tx tl : TE} {t u : TT} {d e z : PyData} {ds es : List PyData} {D : Ends} {tu tw tz : TS} {b c : Bool} {v : V} {ts : Tw} {i j : Nat} {vs : List Nat}
theorem lc_tw (f : Int × Int → Option PyData) (h : EvD K tl σ B (twD b c ts)) (hl : ts.length ≤ 40000) (hv : ∀ y w, wipe (((wipe σ vs).set i (some y)).set j (some w)) vs = wipe σ vs)
    (ht : ∀ p ∈ ts, ∀ G, Ex B G → EvT t (((wipe σ vs).set i (some (.int p.1))).set j (some (.int p.2))) G (f p).isSome)
    (he : ∀ p ∈ ts, ∀ e, f p = some e → ∀ G, Ex B G → EvD K te (((wipe σ vs).set i (some (.int p.1))).set j (some (.int p.2))) G e) :
    EvDL K (tLc (iRow K tl) (gRow K 2 (gCons (gName i) (gCons (gName j) gNil))) t te vs) σ B (ts.filterMap f) := by
  let f' : PyData → Option PyData := fun d => match d with
    | .list [.int k, .int h] => f (k, h)
    | .tuple [.int k, .int h] => f (k, h)
    | _ => none
  have hf : ∀ p, f' (prD c p) = f p := fun p => by cases c <;> rfl
  have e1 : (ts.map (prD c)).filterMap f' = ts.filterMap f := by
    rw [List.filterMap_map]
    congr 1
    funext p
    exact hf p
  rw [← e1]
  refine dl_lc f' h (by rw [List.length_map]; exact hl) fun d hd x G H' eG e2 hx Q k => ?_
  obtain ⟨p, hp, rfl⟩ := List.mem_map.mp hd
  refine g_pairB e2 hx fun y w hy hw => ?_
  rw [hy.int_of, hw.int_of]
  refine k _ (hv _ _) ?_ fun e he' => ?_
  · rw [hf p]
    exact ht p hp G eG
  · rw [hf p] at he'
    exact he p hp e he' G eG
/-- for a, c in towers (at the l-th slot) -/
theorem sd_forTw {l : Nat} (e : Ex B H) (hd : Dp K B v (twD b c ts)) (hv : σ[l]? = some (some v)) (Pv : Nat → L2.St → Hp → Prop) (h0 : Pv 0 σ H) (hG : ∀ n σ' H', n ≤ ts.length → Pv n σ' H' → Ex B H')
    (hs : ∀ n p σ' H', ts[n]? = some p → Pv n σ' H' → tu { D with nx := Pv (n + 1), ct := Pv (n + 1), bk := D.nx } ((σ'.set i (some (.int p.1))).set j (some (.int p.2))) H')
    (hn : ∀ σ' H', Pv ts.length σ' H' → D.nx σ' H') : tFor (iRow K (tVar l)) (gRow K 2 (gCons (gName i) (gCons (gName j) gNil))) tu D σ H := by
  have hl : (ts.map (prD c)).length = ts.length := List.length_map ..
  refine sd_for e hd hv Pv h0 (fun n σ' H' hi p => hG n σ' H' (by omega) p) (fun n d x σ' H' hi hx p => ?_) (by rw [hl]; exact hn)
  rw [List.getElem?_map] at hi
  cases hq : ts[n]? with
  | none =>
    rw [hq] at hi
    cases hi
  | some q =>
    rw [hq] at hi
    cases hi
    refine g_pairB (hG n σ' H' (by have := (List.getElem?_eq_some_iff.mp hq).1; omega) p) hx fun y w hy hw => ?_
    rw [hy.int_of, hw.int_of]
    exact hs n q σ' H' hq p
theorem qd_forTw {l : Nat} (e : Ex B H) (hd : Dp K B v (twD b c ts)) (hv : σ[l]? = some (some v)) (Pv : Nat → L2.St → Hp → Prop) (h0 : Pv 0 σ H) (hG : ∀ n σ' H', n ≤ ts.length → Pv n σ' H' → Ex B H')
    (hs : ∀ n p σ' H', ts[n]? = some p → Pv n σ' H' → tu { D with nx := Pv (n + 1), ct := Pv (n + 1), bk := tz D } ((σ'.set i (some (.int p.1))).set j (some (.int p.2))) H')
    (hn : ∀ σ' H', Pv ts.length σ' H' → tz D σ' H') : tSeq (tFor (iRow K (tVar l)) (gRow K 2 (gCons (gName i) (gCons (gName j) gNil))) tu) tz D σ H := sd_forTw (D := { D with nx := tz D }) e hd hv Pv h0 hG hs hn
theorem sp_PD {n : Nat} {R : List PyData → PyData → Prop} {dvs : List V} {dds : List PyData} (hv : ∀ H, DpAll K H dvs dds) (hn : (ds ++ dds).length = n) (h : R (ds ++ dds) z) : SpD K (spP K n R) dvs ds z :=
  fun vs H H1 x hd Q E q => ⟨H, ds ++ dds, z, x, hn, hd.append (hv H), h, q⟩
end
/-- if c: a call whose value is dropped -/
theorem qd_ifdrop {K : PySem.W.Frag} {σ : L2.St} {B H : Hp} {te : TE} {t : TT} {d : PyData} {D : Ends} {tz : TS} {c : Bool} (x : Ex B H) (h : EvT t σ B c) (h1 : c = true → EvD K te σ B d) (k : ∀ H1, Ex H H1 → tz D σ H1) : tSeq (tIfS t (tDrop te) tNext) tz D σ H :=
  qd_when x h (fun hc H1 e1 => sd_drop (x.trans e1) (h1 hc) fun H2 e2 => k H2 (e1.trans e2)) fun _ H1 e1 => k H1 e1
/-- a def whose last parameter has a default -/
theorem has_mkD {P : Program} {w : World} {K : PySem.W.Frag} {mg : Str → Option Value} {base : Heap} {CX : CXT} {x qual : Str} {st : Stmt} {f : Addr} {fd : FuncData} {k n : Nat} {N ps : List Str} {dvs : List V} {sp : Sp}
    (F : FunD K x qual (defArgs st) (defBody st) (defScope st) dvs [] f fd) (hm : mg x = some (.ref f)) (S : FnScope N ps (defScope st)) (len : ∀ vs H Q E, sp vs H Q E → vs.length = ps.length) (hd : dvs ≠ []) (hn : n + dvs.length = ps.length)
    (h : ∀ (T : Addr) (kV doc pm : Value) (an : Option Addr) (cdv ct : Value) (us its : List Value), us.length = n → its.length = dvs.length →
      ∃ k, bindArgs (PySem.W.fnOf x qual (defArgs st) (defBody st) (defScope st) (.ref T) kV doc pm an cdv ct) ⟨us, []⟩ = seqItems? (.ref T) >>= k ∧ k (some its.toArray) = pure (ps.zip (us ++ its)))
    (body : ∀ (cdv : Value) (A : Around) (outer : List Env) (s : Shared) (H : Hp) (vs : List V) (Q : VK) (E : XK), Room k (A.deeper (envOfC qual (defScope st) s.heap.objs.size f cdv)) → sp vs H Q E →
      ∃ t, PSs (cxOf CX P w K mg base N qual (defScope st) f cdv A outer s H E).nox (defBody st) t ∧ t { nx := fun _ H' => Q .non H', rt := Q } (start N vs) H) :
    Has P w K mg base CX x (k + 1) ps dvs sp := by
  obtain ⟨ds, hv, hb⟩ := F.binds1 n 0 hd (by simpa using hn) h
  refine ⟨f, fd, ds, F.ok S len fun cdv A outer s H vs Q E hr hs => ?_, hm, F.kp, hv, hb⟩
  obtain ⟨t, h1, h2⟩ := body cdv A outer s H vs Q E hr hs
  exact ⟨t, h1.nox, h2⟩
end Tb
end

section
set_option Elab.async false
set_option linter.all false
set_option maxRecDepth 100000
set_option maxHeartbeats 1000000
/-! Toss base 6: xs[:b] = ys. -/
namespace Tb
open PySem PySem.Spec PyProof.Rows L2 Evl

theorem bounds_head {c n : Nat} (hc : c ≤ n) : sliceBounds none (some (c : Int)) none n = ((0 : Int), (c : Int), 1) := by
  have h2 : ¬ ((c : Int) < 0) := by omega
  simp only [sliceBounds, Option.getD_none, h2, if_false, show (1 : Int) > 0 by decide, if_true]
  congr 1
  congr 1
  omega
/-- the machine's list store at a slice that begins at the list's begin -/
theorem set_head_raw {prog : Program} {w : World} {A : Around} {E : Value → Shared → Prop} {st : Shared} {l b sl : Addr} {its new : Array Value} {n n2 : Nat} {vu : Value} {c : Nat} {Q : Unit → Shared → Prop}
    (hl0 : st.heap.get? l = some { cls := .type "list", data := .seq its n }) (hb0 : st.heap.get? b = some { cls := .type "list", data := .seq new n2 }) (hne : l ≠ b) (hs : st.heap.IsSliceOf sl .none vu .none) (pu : IsPart vu (some (c : Int))) (hc : c ≤ its.size)
    (hsz : its.size + new.size ≤ sizeLine) (k : Q () { st with heap := st.heap.update l (Obj.mapSeq fun xs => xs.extract 0 0 ++ new ++ xs.extract c xs.size) }) :
    wpAny (model prog w) A (setItem (.ref l) (.ref sl) (.ref b)) Q E st := by
  have hl := PySem.IsL.isList hl0
  have hb := PySem.IsL.isList hb0
  obtain ⟨so, h1, h2, h3⟩ := id hs
  have tS : st.TypeIs (.ref sl) "slice" := ⟨so, h1, h2⟩
  have apart : Builtin.List.listSameRef (.ref l) (.ref b) = false := beq_eq_false_iff_ne.mpr hne
  have mx : (max (0 : Int) (c : Int)).toNat = c := by omega
  have z2 : ((fun xs : Array Value => xs.extract 0 0 ++ new ++ xs.extract c xs.size) its).size ≤ sizeLine + 1 := by simp only [Array.size_append, Array.size_extract]; omega
  unfold setItem
  try with_reducible refine wpAny_holding ?_
  refine wpAny_bind (wpAny_sequenceKey hl.typeIs (by decide) (wpAny_bind (wpAny_callSpecial?_slot (name := Str.ofString "__setitem__") hl.typeIs slot_list_setitem (wpAny_call_entry slot_list_setitem hl.typeIs entry_list_setitem ?_ (args_list_setitem _ _ _)))))
  show wpAny _ _ (Builtin.List.listSubscript? (.ref sl) >>= _) _ _ st
  unfold Builtin.List.listSubscript?
  refine wpAny_bind (wpAny_bind (wpAny_specialOf tS slice_no_index ?_))
  simp only [Option.isNone_none, if_true]
  refine wpAny_pure (show wpAny _ _ (typeOf (.ref sl) >>= _) _ _ st from wpAny_bind (wpAny_typeOf tS ?_))
  first | rw [if_neg (by decide)] | refine PySem.W.KFB.if_not (by decide) ?_
  rw [listSliceParts_eq]
  refine wpAny_bind (wpAny_bind (wpAny_field h1 h3 (x := .none) rfl (wpAny_bind (wpAny_listPart .none ?_))))
  rw [if_neg (show ¬ ((rawPart none == rawInt 0) = true) from Bool.false_ne_true)]
  refine wpAny_bind (wpAny_field h1 h3 (x := .none) rfl (wpAny_bind (wpAny_listPart .none (wpAny_bind (wpAny_field h1 h3 (x := vu) rfl (wpAny_bind (wpAny_listPart pu (wpAny_pure ?_))))))))
  first | simp only [apart, Bool.false_eq_true, if_false] | refine PySem.W.KFB.if_not apart ?_ | (dsimp only; rw [if_neg (by rw [apart]; exact Bool.false_ne_true)])
  unfold Builtin.List.listAllItems
  refine wpAny_bind (wpAny_bind (wpAny_typeOf hb.typeIs ?_))
  first | refine PySem.W.KFB.if_so (by decide) ?_ | rw [if_pos (by decide)] | simp only [beq_self_eq_true, Bool.true_or, if_true]
  unfold Builtin.List.listItems
  refine wpAny_bind (wpAny_seqItems hb0 rfl (wpAny_pure (wpAny_bind (wpAny_bind (wpAny_seqItems hl0 rfl (wpAny_pure ?_))))))
  refine wpAny_bind (wpAny_of_eq ((sliceIndices_raw none (some (c : Int)) none its.size (by simp)).trans (congrArg (pure : Int × Int × Int → Sem (Int × Int × Int)) (bounds_head hc))) ?_)
  show wpAny _ _ (if ((1 : Int) == 1) = true then _ else _) _ _ st
  rw [if_pos (by decide)]
  refine wpAny_bind (wpAny_rule ?_)
  first | simp only [notLongL hsz, Bool.false_eq_true, if_false] | refine PySem.W.KFB.if_not (notLongL hsz) ?_
  try refine wpAny_bind (wpAny_pure ?_)
  show wpAny _ _ (updateSeq l (fun xs => xs.extract 0 ((0 : Int)).toNat ++ new ++ xs.extract (max (0 : Int) (c : Int)).toNat xs.size) >>= _) _ _ st
  rw [mx]
  refine wpAny_bind (wpAny_updateSeq (hz := Nat.le_trans (Nat.le_add_right _ _) hsz) (_hz' := z2) hl0 rfl (wpAny_bind (wpAny_letGo ?_)))
  first | exact wpAny_bind (wpAny_pure (wpAny_pure ⟨.none, rfl, wpAny_pure k⟩)) | exact wpAny_pure ⟨.none, rfl, wpAny_pure k⟩

/-- name[:hi] = a list -/
def gHead (to : TE) (th : TO) : TG := fun v σ H Q => to σ H fun o H1 => th σ H1 fun u H2 => ∃ (l b : Addr) (xs ys : List V) (c : Nat), o = .ref l ∧ u = some (c : Int) ∧ v = .ref b ∧ H2 l = some (.lst xs) ∧ H2 b = some (.lst ys) ∧ l ≠ b ∧ c ≤ xs.length ∧
  xs.length + ys.length ≤ sizeLine ∧ Q σ (upd H2 l (.lst (ys ++ xs.drop c)))
theorem pg_head {X : Cx} {pos p2 : Pos} {o : Expr} {hi : Option Expr} {to : TE} {th : TO} (ho : PE X o to) (hh : PO X hi th)
    (hx : ∀ v, assign (.Subscript o (.Slice none hi none p2) pos) X.env v = (do
      let ov ← holding [v] (eval o X.env)
      let iv ← holding [v, ov] (eval (.Slice none hi none p2) X.env)
      standAt pos
      holding [v, ov, iv] (setItem ov iv v)
      release [iv, v, ov] []) := by intro _; rfl) : PG X (.Subscript o (.Slice none hi none p2) pos) (gHead to th) := by
  refine ⟨fun pns st σ H v u Q I r h => ?_⟩
  rw [hx]
  refine wpAny_bind (wpAny_holding (thn (ho.run pns st σ H _ I h) fun ov st1 ⟨x, H1, I1, r1, q1⟩ => wpAny_bind (wpAny_holding (wpAny_Slice ?_))))
  rw [evalPart_none]
  refine wpAny_pure (thn (hh.run pns st1 σ H1 _ I1 q1) fun vu st2 ⟨u2, H2, I2, pu, q2⟩ => wpAny_pure ?_)
  obtain ⟨l, b, xs, ys, c, rfl, rfl, rfl, hl, hb, hne, hc, hz, q⟩ := q2
  cases r1
  cases r
  have I3 : Inv X pns σ H2 { st2 with heap := st2.heap.push { cls := .type "slice", data := .fields #[.none, vu, .none] } } := I2.kept (t' := st2.toks) fun _ _ z => Heap.get?_push_of_some _ z
  obtain ⟨z, its, n, rx, hxl, e⟩ := I3.lstM hl
  obtain ⟨z2, its2, n2, ry, hyl, e2⟩ := I3.lstM hb
  refine wpAny_bind (wpAny_standAt (wpAny_bind (wpAny_holding (set_head_raw e e2 hne (Heap.IsSliceOf.new ..) pu (by rw [List.size_toArray]; omega) (by rw [List.size_toArray, List.size_toArray]; omega) (wpAny_release ⟨σ, _, ?_, q⟩)))))
  refine I3.lset (its' := its2 ++ its.drop c) (t' := st2.toks) hl e ?_ (Vals.append ry (rx.drop _)) ?_
  · exact (splice_eq its its2 0 c).trans (by rw [List.take_zero, List.nil_append])
  · rw [List.length_append, List.length_drop]
    omega
end Tb
end

section
set_option Elab.async false
set_option linter.all false
set_option maxRecDepth 100000
set_option maxHeartbeats 1000000
/-! Toss base 7: lists that grow, slices, reversed rows, comprehensions over enumerate and over two. -/
namespace Tb
open PySem PySem.Spec PyProof.Rows L2 Evl

section
variable {K : PySem.W.Frag} {σ σ2 : L2.St} {B H H' : Hp} {ta tb te tx tl : TE} {t u : TT} {d e z : PyData} {ds es : List PyData} {D : Ends} {tu tw tz : TS} {g : TG} {b : Bool} {v : V} {vs : List Nat}
/-- name.append(e): the list at l stands apart from B -/
theorem sd_append {j : Nat} {l : Addr} {xs : List V} (x : Ex B H) (hl : H l = some (.lst xs)) (h0 : B l = none) (hj : σ[j]? = some (some (.ref l))) (h : EvD K te σ B d) (hz : xs.length < 100000)
    (k : ∀ w G H2, Gr B H G H2 → G l = none → H2 l = some (.lst xs) → Dp K G w d → D.nx σ (upd H2 l (.lst (xs ++ [w])))) : tDrop (tBM K "list" rAppend (tVar j) (tCons te tNil)) D σ H :=
  ⟨_, hj, .inl ⟨rfl, xs, sq_of hl⟩, h H x _ fun w G H2 g hw => by
    have h2 : H2 l = some (.lst xs) := g.h12 _ _ hl
    exact ⟨l, xs, w, rfl, rfl, h2, sz_lt hz, k w G H2 g (g.sep l h0 (by rw [hl]; exact fun z => nomatch z)) h2 hw⟩⟩
theorem qd_append {j : Nat} {l : Addr} {xs : List V} (x : Ex B H) (hl : H l = some (.lst xs)) (h0 : B l = none) (hj : σ[j]? = some (some (.ref l))) (h : EvD K te σ B d) (hz : xs.length < 100000)
    (k : ∀ w G H2, Gr B H G H2 → G l = none → H2 l = some (.lst xs) → Dp K G w d → tz D σ (upd H2 l (.lst (xs ++ [w])))) : tSeq (tDrop (tBM K "list" rAppend (tVar j) (tCons te tNil))) tz D σ H := sd_append (D := { D with nx := tz D }) x hl h0 hj h hz k
/-- what B knows stays when the list at l changes -/
theorem ex_upd {l : Addr} {o : HO} (x : Ex B H) (h0 : B l = none) : Ex B (upd H l o) := Ex.mut x h0
/-- list * int -/
theorem dl_rep {k : Int} (ha : EvDL K ta σ H ds) (hb : EvD K tb σ H (.int k)) (h1 : 0 ≤ k) (h2 : k ≤ 1000) (hl : ds.length ≤ 1000) : EvDL K (tOp rRep ta tb) σ H (List.replicate k.toNat ds).flatten := fun H1 x Q q =>
  ha H1 x _ fun p xs G2 H2 g0 h0 g2 hp hxs => hb.mono g2.hg H2 g2.g2 _ fun w G3 H3 g3 hw => by
    have hk := hw.int_of
    subst hk
    have hxl := hxs.length
    have hm : xs.length * k.toNat ≤ 1000 * 1000 := Nat.mul_le_mul (by omega) (by omega)
    have hfl : DpAll K G3 (List.replicate k.toNat xs).flatten (List.replicate k.toNat ds).flatten := by
      generalize k.toNat = n
      induction n with
      | zero => exact .nil
      | succ n ih =>
        rw [List.replicate_succ, List.replicate_succ, List.flatten_cons, List.flatten_cons]
        exact (dpa_mono g3.hg hxs).append ih
    refine ⟨p, k, xs, rfl, rfl, g3.h12 _ _ hp, by omega, by omega, Nat.le_trans hm (by decide), fun p2 hp2 => ?_⟩
    exact q p2 _ G3 _ (fresh_back g3.g2 hp2) (fresh_back (g2.h12.trans g3.h12) hp2) ((g2.trans g3).trans (Gr.mut g3.g2 hp2)) upd_same hfl
/-- xs[:c] of a list that may change later -/
theorem cut_head {α : Type} (xs : List V) (c : Nat) (hc : c ≤ xs.length) : cutV xs none (some (c : Int)) = xs.take c := by
  unfold cutV
  rw [HT.sIx_none, HT.sIx_nat]
  have e : min c xs.length = c := by omega
  rw [e]
  rfl
/-- enumerate in a comprehension, counted from k0 -/
theorem lc_turn {G1 H2 Hc : Hp} {Dl : Addr} {ys : List V} (hD : H2 Dl = none) (a1 : B Dl = none) (a2 : Gr G1 H2 B Hc) (a3 : Hc Dl = some (.lst ys)) (a4 : DpAll K B ys es) (hlen : ys.length ≤ 50000) (o : Option PyData) (ht : EvT t σ2 B o.isSome)
    (he : ∀ e, o = some e → EvD K te σ2 B e) {P : Hp → Prop} (hP : ∀ G' ys' H', G' Dl = none → Gr G1 H2 G' H' → H' Dl = some (.lst ys') → DpAll K G' ys' (es ++ o.toList) → P H') :
    t σ2 Hc fun b H3 => if b = true then te σ2 H3 fun w H4 => ∃ acc, H4 Dl = some (.lst acc) ∧ acc.length < sizeLine ∧ P (upd H4 Dl (.lst (acc ++ [w]))) else P H3 := by
  refine ht Hc a2.g2 _ fun H3 e3 => ?_
  cases o with
  | none =>
    show P H3
    exact hP B ys H3 a1 ⟨a2.hg, a2.g2.trans e3, a2.h12.trans e3, a2.sep⟩ (e3 _ _ a3) (by simpa using a4)
  | some e =>
    show te σ2 H3 fun w H4 => ∃ acc, H4 Dl = some (.lst acc) ∧ acc.length < sizeLine ∧ P (upd H4 Dl (.lst (acc ++ [w])))
    refine he e rfl H3 (a2.g2.trans e3) _ fun w G4 H4 g4 hw4 => ?_
    have hG4 : G4 Dl = none := g4.sep Dl a1 (by rw [e3 _ _ a3]; exact fun z => nomatch z)
    refine ⟨ys, g4.h12 _ _ (e3 _ _ a3), sz_lt (by omega), hP G4 _ _ hG4 ⟨a2.hg.trans g4.hg, fun b u hu => ?_, Ex.mut ((a2.h12.trans e3).trans g4.h12) hD, fun b h1 h2 => ?_⟩ upd_same ((dpa_mono g4.hg a4).append (.one hw4))⟩
    · rw [upd_ne (ne_of_none hu hG4)]
      exact g4.g2 b u hu
    · refine g4.sep b (a2.sep b h1 h2) fun z => ?_
      cases q2 : H2 b with
      | none => exact h2 q2
      | some o =>
        rw [(a2.h12.trans e3) b o q2] at z
        cases z
theorem gr_more {G1 H2 G Hc Hd : Hp} (a : Gr G1 H2 G Hc) (e : Ex Hc Hd) : Gr G1 H2 G Hd := ⟨a.hg, a.g2.trans e, a.h12.trans e, a.sep⟩
def mapFrom (k0 : Int) (f : Int → PyData → PyData) : List PyData → List PyData
  | [] => []
  | d :: ds => f k0 d :: mapFrom (k0 + 1) f ds
theorem mapFrom_snoc (f : Int → PyData → PyData) (d : PyData) : ∀ (ds : List PyData) (k0 : Int), mapFrom k0 f (ds ++ [d]) = mapFrom k0 f ds ++ [f (k0 + (ds.length : Int)) d]
  | [], k0 => by
    show [f k0 d] = [f (k0 + ((0 : Nat) : Int)) d]
    rw [show k0 + ((0 : Nat) : Int) = k0 by omega]
  | x :: ds, k0 => by
    show f k0 x :: mapFrom (k0 + 1) f (ds ++ [d]) = f k0 x :: (mapFrom (k0 + 1) f ds ++ [_])
    rw [mapFrom_snoc f d ds (k0 + 1)]
    congr 3
    rw [List.length_cons]
    congr 1
    omega
theorem mapFrom_length (f : Int → PyData → PyData) : ∀ (ds : List PyData) (k0 : Int), (mapFrom k0 f ds).length = ds.length
  | [], _ => rfl
  | d :: ds, k0 => congrArg Nat.succ (mapFrom_length f ds (k0 + 1))
theorem dl_lcE {j i c : Nat} {k0 : Int} (f : Int → PyData → PyData) (hd : Dp K H v (rows b ds)) (hv : σ[j]? = some (some v)) (hl : ds.length ≤ 40000) (h1 : -(2 ^ 63) ≤ k0) (h2 : k0 < 2 ^ 63) (hw : ∀ y w, wipe (((wipe σ vs).set i (some y)).set c (some w)) vs = wipe σ vs)
    (he : ∀ (n : Nat) (d : PyData) (y : V) (G : Hp), ds[n]? = some d → Ex H G → Dp K G y d → EvD K te (((wipe σ vs).set i (some (.int (k0 + (n : Int))))).set c (some y)) G (f (k0 + (n : Int)) d)) :
    EvDL K (tLc (iEnumS K (tCons (tVar j) tNil) (tCons (tC (.int k0)) tNil)) (gRow K 2 (gCons (gName i) (gCons (gName c) gNil))) tYes te vs) σ H (mapFrom k0 f ds) := fun H1 x Q q => by
  obtain ⟨a, xs, rfl, hr, ha⟩ := row_of hd
  have hxl := ha.length
  let Pv : Addr → Nat → Hp → Prop := fun Dl n H' => ∃ G ys, G Dl = none ∧ Gr H H1 G H' ∧ H' Dl = some (.lst ys) ∧ DpAll K G ys (mapFrom k0 f (ds.take n))
  have h0 : ∀ Dl, H1 Dl = none → Pv Dl 0 (upd H1 Dl (.lst [])) := fun Dl hD => ⟨H, [], fresh_back x hD, Gr.mut x hD, upd_same, .nil⟩
  have fin : ∀ Dl, H1 Dl = none → ∀ H', Pv Dl ds.length H' → Q (.ref Dl) H' := fun Dl hD H' ⟨G, ys, a1, a2, a3, a4⟩ => by
    rw [List.take_length] at a4
    exact q Dl ys G H' a1 hD a2 a3 a4
  have turn : ∀ Dl, H1 Dl = none → ∀ (n : Nat) (y : V) (H' H'' : Hp), n < xs.length → Pv Dl n H' → (∃ T w, y = .ref T ∧ H' T = none ∧ H'' = upd H' T (.tup [.int (k0 + (n : Nat)), w]) ∧ xs[n]? = some w) →
      gRow K 2 (gCons (gName i) (gCons (gName c) gNil)) y (wipe σ vs) H'' fun σ2 H2' => wipe σ2 vs = wipe σ vs ∧ tYes σ2 H2' fun b H3 =>
        if b = true then te σ2 H3 fun w H4 => ∃ acc, H4 Dl = some (.lst acc) ∧ acc.length < sizeLine ∧ Pv Dl (n + 1) (upd H4 Dl (.lst (acc ++ [w]))) else Pv Dl (n + 1) H3 := by
    rintro Dl hD n y H' H'' hn ⟨G, ys, a1, a2, a3, a4⟩ ⟨T, w, rfl, hT, rfl, hx⟩
    obtain ⟨d, hdi, hdy⟩ := ha.get hx
    refine ⟨T, [.int (k0 + (n : Nat)), w], rfl, .inr (st_of upd_same), rfl, _, _, rfl, _, _, rfl, rfl, hw _ _, ?_⟩
    have hlen : ys.length ≤ 50000 := by
      rw [a4.length, mapFrom_length, List.length_take]
      omega
    refine lc_turn hD a1 (gr_more a2 (Ex.new hT)) (Ex.new hT _ _ a3) a4 hlen (some (f (k0 + (n : Int)) d)) et_yes (fun e ee => ?_) fun G' ys' H3 b1 b2 b3 b4 => ⟨G', ys', b1, b2, b3, ?_⟩
    · cases ee
      exact he n d w G hdi a2.hg (dp_mono a2.hg hdy)
    · rw [List.take_add_one, hdi]
      show DpAll K G' ys' (mapFrom k0 f (ds.take n ++ [d]))
      rw [mapFrom_snoc, List.length_take, show min n ds.length = n by omega]
      exact b4
  have Gstay : ∀ Dl n H', Pv Dl n H' → Ex H H' := fun Dl n H' ⟨G, ys, _, a2, _⟩ => a2.hg.trans a2.g2
  refine ⟨_, hv, .ref a, k0, rfl, rfl, h1, h2, a, rfl, ?_⟩
  rcases hr with hr | hr
  · exact .inl ⟨⟨xs, ex_l x hr⟩, fun Dl hD => lc_it walk_enumL (Pv Dl) (h0 Dl hD) (fun n H' _ p => ex_l (Gstay Dl n H' p) hr) (turn Dl hD) (by rw [hxl]; exact fin Dl hD)⟩
  · exact .inr ⟨⟨xs, ex_t x hr⟩, fun Dl hD => lc_it walk_enumT (Pv Dl) (h0 Dl hD) (fun n H' _ p => ex_t (Gstay Dl n H' p) hr) (turn Dl hD) (by rw [hxl]; exact fin Dl hD)⟩

/-! ### reversed -/
theorem walk_revT {a : Addr} {xs : List V} : Walk (RT.ItvT K a xs.length) xs.length (fun H => SqT K H a xs) (fun i H x H' => H' = H ∧ xs[xs.length - 1 - i]? = some x) :=
  ⟨fun i _ hi q => ⟨hi, xs, xs[xs.length - 1 - i]'(by omega), q, by simp [show xs.length - 1 - i < xs.length by omega]⟩, fun _ _ => Nat.le_refl _, fun _ _ _ _ _ q y => ⟨y.1, y.2 xs q⟩⟩
theorem sd_forRev {j : Nat} (e : Ex B H) (hd : Dp K B v (rows b ds)) (hv : σ[j]? = some (some v)) (Pv : Nat → L2.St → Hp → Prop) (h0 : Pv 0 σ H) (hG : ∀ i σ' H', i ≤ ds.length → Pv i σ' H' → Ex B H')
    (hs : ∀ i d x σ' H', i < ds.length → ds[ds.length - 1 - i]? = some d → Dp K B x d → Pv i σ' H' → g x σ' H' fun σ2 H2 => tu { D with nx := Pv (i + 1), ct := Pv (i + 1), bk := D.nx } σ2 H2)
    (hn : ∀ σ' H', Pv ds.length σ' H' → D.nx σ' H') : tFor (RT.iRevA K (tVar j)) g tu D σ H := by
  obtain ⟨a, xs, rfl, hr, ha⟩ := row_of hd
  have hl := ha.length
  have turn : ∀ (i : Nat) (x : V) (σ' : L2.St) (H1 H1' : Hp), i < xs.length → Pv i σ' H1 → (H1' = H1 ∧ xs[xs.length - 1 - i]? = some x) → g x σ' H1' fun σ2 H2 => tu { D with nx := Pv (i + 1), ct := Pv (i + 1), bk := D.nx } σ2 H2 := by
    rintro i x σ' H1 _ hi p ⟨rfl, hx⟩
    obtain ⟨d, h1, h2⟩ := ha.get hx
    rw [hl] at h1
    exact hs i d x σ' _ (by omega) h1 h2 p
  refine ⟨_, hv, a, xs, rfl, ?_⟩
  rcases hr with hr | hr
  · exact .inl ⟨ex_l e hr, for_it walk_rev Pv h0 (fun i σ' H' hi p => ex_l (hG i σ' H' (by omega) p) hr) turn (by rw [hl]; exact hn)⟩
  · exact .inr ⟨ex_t e hr, for_it walk_revT Pv h0 (fun i σ' H' hi p => ex_t (hG i σ' H' (by omega) p) hr) turn (by rw [hl]; exact hn)⟩
theorem qd_forRev {j : Nat} (e : Ex B H) (hd : Dp K B v (rows b ds)) (hv : σ[j]? = some (some v)) (Pv : Nat → L2.St → Hp → Prop) (h0 : Pv 0 σ H) (hG : ∀ i σ' H', i ≤ ds.length → Pv i σ' H' → Ex B H')
    (hs : ∀ i d x σ' H', i < ds.length → ds[ds.length - 1 - i]? = some d → Dp K B x d → Pv i σ' H' → g x σ' H' fun σ2 H2 => tu { D with nx := Pv (i + 1), ct := Pv (i + 1), bk := tz D } σ2 H2)
    (hn : ∀ σ' H', Pv ds.length σ' H' → tz D σ' H') : tSeq (tFor (RT.iRevA K (tVar j)) g tu) tz D σ H := sd_forRev (D := { D with nx := tz D }) e hd hv Pv h0 hG hs hn

/-- [x for part in reversed(row of lists) for x in part] -/
theorem dl_lc2rev {j a c : Nat} {dss : List (List PyData)} (hd : Dp K H v (rows b (dss.map .list))) (hv : σ[j]? = some (some v)) (hl : dss.flatten.length ≤ 40000) (hac : a ≠ c) (ha' : a < σ.length) (hc' : c < σ.length)
    (hw : ∀ y, wipe ((wipe σ [a, c]).set a (some y)) [a, c] = wipe σ [a, c]) (hw1 : ∀ y z, wipe ((wipe ((wipe σ [a, c]).set a (some y)) [c]).set c (some z)) [c] = wipe ((wipe σ [a, c]).set a (some y)) [c]) :
    EvDL K (tLc2 (RT.iRevA K (tVar j)) (gName a) tYes (iRow K (tVar a)) (gName c) tYes (tVar c) [a, c] [c]) σ H dss.reverse.flatten := fun H1 x Q q => by
  obtain ⟨ad, xs, rfl, hr, hx⟩ := row_of hd
  have hxl : xs.length = dss.length := by rw [hx.length, List.length_map]
  let Pd : Addr → List PyData → Hp → Prop := fun Dl es H' => ∃ G ys, G Dl = none ∧ Gr H H1 G H' ∧ H' Dl = some (.lst ys) ∧ DpAll K G ys es
  have stay : ∀ Dl es H', Pd Dl es H' → Ex H H' := fun Dl es H' ⟨G, ys, _, a2, _⟩ => a2.hg.trans a2.g2
  have fl : ∀ i, ((dss.reverse.take i).flatten).length ≤ 40000 := fun i => by
    have h1 : ((dss.reverse.take i).flatten).length ≤ (dss.reverse.flatten).length := by
      rw [← List.take_append_drop i dss.reverse, List.flatten_append, List.length_append, List.take_append_drop]
      omega
    have h2 : (dss.reverse.flatten).length = dss.flatten.length := by
      rw [List.length_flatten, List.length_flatten, List.map_reverse, List.sum_reverse]
    omega
  -- one outer turn
  have turn : ∀ Dl, H1 Dl = none → ∀ (i : Nat) (y : V) (H' : Hp), i < xs.length → xs[xs.length - 1 - i]? = some y → Pd Dl (dss.reverse.take i).flatten H' →
      ∃ (σ2 : L2.St), σ2 = (wipe σ [a, c]).set a (some y) ∧ (iRow K (tVar a)) σ2 H' fun J1 H4 => ∃ W1 : Nat → Nat → Hp → Prop, (∃ m, W1 0 m H4) ∧ ∀ j' k H, W1 j' k H →
        (J1.stop j' H ∧ Pd Dl (dss.reverse.take (i + 1)).flatten H) ∨ (J1.go j' H ∧ ∃ Nx1 : Hp → Prop, (∀ H', Nx1 H' → ∃ k', k' < k ∧ W1 (j' + 1) k' H') ∧ ∀ x H', J1.yld j' H x H' → (gName c) x (wipe σ2 [c]) H' fun σ3 H5 => wipe σ3 [c] = wipe σ2 [c] ∧ tYes σ3 H5 fun b H6 =>
          if b = true then (tVar c) σ3 H6 fun y H7 => ∃ acc, H7 Dl = some (.lst acc) ∧ acc.length < sizeLine ∧ Nx1 (upd H7 Dl (.lst (acc ++ [y]))) else Nx1 H6) := by
    intro Dl hD i y H' hi hy p
    obtain ⟨d, h1, h2⟩ := hx.get hy
    rw [hxl, List.getElem?_map] at h1
    have hrev : dss.reverse[i]? = dss[dss.length - 1 - i]? := List.getElem?_reverse (by omega)
    cases hq : dss[dss.length - 1 - i]? with
    | none =>
      rw [hq] at h1
      cases h1
    | some es =>
      rw [hq] at h1
      cases h1
      rw [hq] at hrev
      have hnext : (dss.reverse.take (i + 1)).flatten = (dss.reverse.take i).flatten ++ es := by
        rw [List.take_add_one, hrev, List.flatten_append]
        simp
      obtain ⟨q1, ys, rfl, hs, hes⟩ := Dp.lst_of h2
      have hel := hes.length
      have hlen1 := fl (i + 1)
      rw [hnext, List.length_append] at hlen1
      refine ⟨_, rfl, _, by rw [List.getElem?_set_self (by rw [wipe_length]; exact ha')], q1, rfl, .inl ⟨⟨ys, ex_l (stay Dl _ H' p) hs⟩, ?_⟩⟩
      refine ⟨fun j' k H' => k = ys.length - j' ∧ j' ≤ ys.length ∧ Pd Dl ((dss.reverse.take i).flatten ++ es.take j') H', ⟨ys.length, rfl, Nat.zero_le _, by simpa using p⟩, ?_⟩
      rintro j' k H'' ⟨rfl, hj, p'⟩
      by_cases hlt : j' < ys.length
      · refine .inr ⟨⟨ys, ys[j'], ex_l (stay Dl _ H'' p') hs, by simp [hlt]⟩, fun H3 => Pd Dl ((dss.reverse.take i).flatten ++ es.take (j' + 1)) H3, fun H3 p3 => ⟨ys.length - (j' + 1), by omega, rfl, hlt, p3⟩, fun z H3 hz => ?_⟩
        obtain ⟨rfl, hz⟩ := hz
        have hzi := hz ys (ex_l (stay Dl _ _ p') hs)
        obtain ⟨d', h3, h4⟩ := hes.get hzi
        refine ⟨hw1 _ _, ?_⟩
        obtain ⟨G, acc, a1, a2, a3, a4⟩ := p'
        have hlc : acc.length ≤ 50000 := by
          rw [a4.length, List.length_append, List.length_take]
          omega
        have tk : (dss.reverse.take i).flatten ++ es.take (j' + 1) = ((dss.reverse.take i).flatten ++ es.take j') ++ (some d').toList := by
          rw [List.take_add_one, h3, List.append_assoc]
        refine lc_turn (o := some d') hD a1 a2 a3 a4 hlc et_yes (fun e ee => ?_) fun G' ys' H5 b1 b2 b3 b4 => ⟨G', ys', b1, b2, b3, by rw [tk]; exact b4⟩
        cases ee
        refine d_var ?_ (dp_mono a2.hg h4)
        rw [List.getElem?_set_self]
        rw [wipe_length, List.length_set, wipe_length]
        exact hc'
      · have ej : j' = ys.length := by omega
        subst ej
        rw [hel, List.take_length, ← hnext] at p'
        exact .inl ⟨⟨ys, ex_l (stay Dl _ H'' p') hs, Nat.le_refl _⟩, p'⟩
  have go : ∀ (J : It) (Gx : Hp → Prop), Walk J xs.length Gx (fun i H x H' => H' = H ∧ xs[xs.length - 1 - i]? = some x) → (∀ H', Ex H H' → Gx H') → ∀ Dl, H1 Dl = none → ∃ W : Nat → Nat → Hp → Prop, (∃ m, W 0 m (upd H1 Dl (.lst []))) ∧ ∀ i m H, W i m H →
      (J.stop i H ∧ Q (.ref Dl) H) ∨ (J.go i H ∧ ∃ Nx : Hp → Prop, (∀ H', Nx H' → ∃ m', m' < m ∧ W (i + 1) m' H') ∧ ∀ x H', J.yld i H x H' → (gName a) x (wipe σ [a, c]) H' fun σ2 H2 => wipe σ2 [a, c] = wipe σ [a, c] ∧ tYes σ2 H2 fun b H3 =>
        if b = true then (iRow K (tVar a)) σ2 H3 fun J1 H4 => ∃ W1 : Nat → Nat → Hp → Prop, (∃ m, W1 0 m H4) ∧ ∀ j k H, W1 j k H →
          (J1.stop j H ∧ Nx H) ∨ (J1.go j H ∧ ∃ Nx1 : Hp → Prop, (∀ H', Nx1 H' → ∃ k', k' < k ∧ W1 (j + 1) k' H') ∧ ∀ x H', J1.yld j H x H' → (gName c) x (wipe σ2 [c]) H' fun σ3 H5 => wipe σ3 [c] = wipe σ2 [c] ∧ tYes σ3 H5 fun b H6 =>
            if b = true then (tVar c) σ3 H6 fun y H7 => ∃ acc, H7 Dl = some (.lst acc) ∧ acc.length < sizeLine ∧ Nx1 (upd H7 Dl (.lst (acc ++ [y]))) else Nx1 H6)
        else Nx H3) := by
    intro J Gx wk hGx Dl hD
    refine ⟨fun i m H' => m = xs.length - i ∧ i ≤ xs.length ∧ Pd Dl (dss.reverse.take i).flatten H', ⟨xs.length, rfl, Nat.zero_le _, H, [], fresh_back x hD, Gr.mut x hD, upd_same, .nil⟩, ?_⟩
    rintro i m H' ⟨rfl, hi, p⟩
    have hg := hGx H' (stay Dl _ H' p)
    by_cases hlt : i < xs.length
    · refine .inr ⟨wk.goes i H' hlt hg, fun H3 => Pd Dl (dss.reverse.take (i + 1)).flatten H3, fun H3 p3 => ⟨xs.length - (i + 1), by omega, rfl, hlt, p3⟩, fun y H3 hy => ?_⟩
      obtain ⟨e1, hy2⟩ := wk.yields i H' y H3 hlt hg hy
      subst e1
      obtain ⟨σ2, rfl, h2⟩ := turn Dl hD i y _ hlt hy2 p
      exact ⟨hw y, h2⟩
    · have ei : i = xs.length := by omega
      subst ei
      refine .inl ⟨wk.stops H' hg, ?_⟩
      rw [hxl, ← List.length_reverse, List.take_length] at p
      obtain ⟨G, ys, a1, a2, a3, a4⟩ := p
      exact q Dl ys G H' a1 hD a2 a3 a4
  refine ⟨_, hv, ad, xs, rfl, ?_⟩
  rcases hr with hr | hr
  · exact .inl ⟨ex_l x hr, fun Dl hD => go _ _ walk_rev (fun H' e => ex_l e hr) Dl hD⟩
  · exact .inr ⟨ex_t x hr, fun Dl hD => go _ _ walk_revT (fun H' e => ex_t e hr) Dl hD⟩
end
end Tb
end

section
set_option Elab.async false
set_option linter.all false
set_option maxRecDepth 100000
set_option maxHeartbeats 1000000
/-! Toss base 8: a tuple whose object is known, dict(towers), loops over new rows, list(range), a row and another one. -/
namespace Tb
open PySem PySem.Spec PyProof.Rows L2 Evl

section
variable {X : Cx}
/-- tuple(a list): a new tuple, its object known (it has no dict) -/
theorem call_tuple_fz : CallR X (.type "tuple") (fun xs H Q => ∃ p ys, xs = [V.ref p] ∧ SqL X.K H p ys ∧ ∀ l o, H l = none → o.cls = .type "tuple" → o.dict = none → Q (.ref l) (upd H l (.frz o (.tup ys)))) := by
  intro pns st σ H xs us Q I r h
  obtain ⟨p, ys, rfl, hq, q⟩ := h
  obtain ⟨u, rfl, rx⟩ := vals1 r
  cases rx
  obtain ⟨its, r', pl, hz⟩ := I.list hq
  have hlen := r'.length
  refine call_tuple_list pl.isList (fun h' kp => ?_) (by simp only [List.size_toArray] <;> omega)
  have I1 : Inv X pns σ H { st with heap := h' } := I.kept (t' := st.toks) kp
  have hget : (h'.push { cls := .type "tuple", data := .seq its.toArray }).get? h'.objs.size = some { cls := .type "tuple", data := .seq its.toArray } := Heap.get?_push_size _ rfl
  have I2 : Inv X pns σ (upd H h'.objs.size (.frz { cls := .type "tuple", data := .seq its.toArray } (.tup ys))) { st with heap := h'.push { cls := .type "tuple", data := .seq its.toArray } } :=
    I1.laid (t' := st.toks) (fun _ _ z => Heap.get?_push_of_some _ z) (Nat.le_refl _) (show ObjOk X.prog X.w _ _ _ (.frz _ (.tup ys)) from ⟨hget, hz, its, r', IsTup.new _ _⟩)
  exact ⟨.ref h'.objs.size, _, I2, rfl, q _ _ (I1.hok.fresh (Nat.le_refl _)) rfl rfl⟩
/-- dict(a tuple of pairs) -/
theorem call_dict_fz (hc : X.calm = true) : CallR X (.type "dict") (fun xs H Q => ∃ (a : Addr) (o : Obj) (ps : List Addr) (kvs : List (Key × V)), xs = [V.ref a] ∧ H a = some (.frz o (.tup (ps.map V.ref))) ∧ o.cls = .type "tuple" ∧ o.dict = none ∧
    Paired (fun p kv => SqT X.K H p [kV kv.1, kv.2]) ps kvs ∧ ∀ p, H p = none → Q (.ref p) (upd H p (.dK (mergeK [] kvs)))) := by
  intro pns st σ H xs us Q I r h
  obtain ⟨a, o, ps, kvs, rfl, ha, hcl, hdn, hp, q⟩ := h
  obtain ⟨u, rfl, rx⟩ := vals1 r
  cases rx
  obtain ⟨hget, hz, its, rv, ht⟩ := (show ObjOk X.prog X.w H st.heap a (.frz o (.tup (ps.map V.ref))) from I.hok a _ ha)
  have ei := refs_at rv
  subst ei
  rw [List.length_map] at hz
  obtain ⟨prs, rel, hl, hpr⟩ := pairs_of I hp
  obtain ⟨o2, ho2, hc2, n, hd2⟩ := ht
  rw [hget] at ho2
  cases ho2
  -- the keys as they stand
  have hks : ∃ ws : List (Value × Value), ws.length = prs.length ∧ ∀ (j : Nat) (k v : Value), ws[j]? = some (k, v) → ∃ b q', ps[j]? = some b ∧ prs[j]? = some q' ∧ v = q'.2 ∧ IsTup st.heap b #[k, v] ∧ keyIs q'.1 k = true := by
    have all : ∀ m, m ≤ prs.length → ∃ ws : List (Value × Value), ws.length = m ∧ ∀ (j : Nat) (k v : Value), ws[j]? = some (k, v) → ∃ b q', ps[j]? = some b ∧ prs[j]? = some q' ∧ v = q'.2 ∧ IsTup st.heap b #[k, v] ∧ keyIs q'.1 k = true := by
      intro m
      induction m with
      | zero => exact fun _ => ⟨[], rfl, fun j k v e => by simp at e⟩
      | succ m ih =>
        intro hm
        obtain ⟨ws, h1, h2⟩ := ih (by omega)
        have hlt : m < prs.length := by omega
        obtain ⟨b, u, e1, e2, e3⟩ := hpr m prs[m] (List.getElem?_eq_getElem hlt)
        refine ⟨ws ++ [(u, prs[m].2)], by rw [List.length_append, h1]; rfl, fun j k v e => ?_⟩
        by_cases hj : j < ws.length
        · rw [List.getElem?_append_left hj] at e
          exact h2 j k v e
        · rw [List.getElem?_append_right (by omega)] at e
          have hj2 : j = m := by
            by_cases z : j - ws.length = 0
            · omega
            · obtain ⟨c, hc⟩ : ∃ c, j - ws.length = c + 1 := ⟨j - ws.length - 1, by omega⟩
              rw [hc] at e
              simp at e
          subst hj2
          rw [h1, Nat.sub_self] at e
          cases e
          exact ⟨b, _, e1, List.getElem?_eq_getElem hlt, rfl, e2, e3⟩
    exact all _ (Nat.le_refl _)
  obtain ⟨ws, hwl, hws⟩ := hks
  let Ts : Nat → Addr := fun j => ps.getD j 0
  have ok : PlainSeq "tuple" st.heap a (ps.map Value.ref).toArray ∧ PairItems st.heap (ps.map Value.ref).toArray Ts ws := by
    refine ⟨⟨o, n, hget, hcl, hdn, hd2⟩, by simp [hwl, hl], fun j k v e => ?_⟩
    obtain ⟨b, q', e1, e2, e3, e4, e5⟩ := hws j k v e
    have eT : Ts j = b := by
      show ps.getD j 0 = b
      rw [List.getD_eq_getElem?_getD, e1]
      rfl
    rw [eT]
    exact ⟨by simp [e1], .inl e4⟩
  refine PySem.call_dict_pairs (knd := mixKind X.prog X.w) (kvs := prs) (PairArg.tuple a (ps.map Value.ref).toArray Ts ws) (I.ok.hd hc) ok ⟨hwl.symm, fun i k v e => ?_⟩ (by rw [hwl, hl]; exact hz) fun h' tk hd' hk => ?_
  · obtain ⟨b, q', e1, e2, e3, e4, e5⟩ := hws i k v e
    exact ⟨q'.1, by rw [e2, e3], e5⟩
  · have hm : (st.heap.objs.size == sysModules) = false := beq_eq_false_iff_ne.mpr (Nat.ne_of_gt I.big)
    have hlen : (mergeK [] kvs).length ≤ sizeLine := Nat.le_trans (length_mergeK kvs []) (by rw [List.length_nil, Nat.zero_add, rel.length, hl]; exact hz)
    exact ⟨.ref st.heap.objs.size, upd H st.heap.objs.size (.dK (mergeK [] kvs)), I.laid (t' := tk) (fun b o z => hk b o (by simp) z) (Nat.le_refl _) (show ObjOk X.prog X.w _ _ _ (.dK (mergeK [] kvs)) from ⟨hlen, hm, merged [] prs, KV.merge rel .nil, hd'⟩), rfl, q _ (I.hok.fresh (Nat.le_refl _))⟩
end

section
variable {K : PySem.W.Frag} {σ : L2.St} {B H H' : Hp} {ta tb te tx tl : TE} {t u : TT} {d e z : PyData} {ds es : List PyData} {D : Ends} {tu tw tz : TS} {g : TG} {b : Bool} {v : V}
/-- for .. in a row that an expression gives -/
theorem sd_forN (x : Ex B H) (h : EvD K tl σ B (rows b ds))
    (k : ∀ v G H1, Gr B H G H1 → Dp K G v (rows b ds) → ∃ Pv : Nat → L2.St → Hp → Prop, Pv 0 σ H1 ∧ (∀ i σ' H', i ≤ ds.length → Pv i σ' H' → Ex G H') ∧
      (∀ i d y σ' H', ds[i]? = some d → Dp K G y d → Pv i σ' H' → g y σ' H' fun σ2 H2 => tu { D with nx := Pv (i + 1), ct := Pv (i + 1), bk := D.nx } σ2 H2) ∧ ∀ σ' H', Pv ds.length σ' H' → D.nx σ' H') : tFor (iRow K tl) g tu D σ H := by
  refine h H x _ fun v G H1 gg hd => ?_
  obtain ⟨Pv, h0, hG, hs, hn⟩ := k v G H1 gg hd
  obtain ⟨a, xs, rfl, hr, ha⟩ := row_of hd
  have hl := ha.length
  refine ⟨a, rfl, ?_⟩
  rcases hr with hr | hr
  · refine .inl ⟨⟨xs, ex_l gg.g2 hr⟩, for_list (xs := xs) Pv h0 (fun i σ' H' hi p => ex_l (hG i σ' H' (by omega) p) hr) (fun i y σ' H' hy p => ?_) (by rw [hl]; exact hn)⟩
    obtain ⟨d, h1, h2⟩ := ha.get hy
    exact hs i d y σ' H' h1 h2 p
  · refine .inr ⟨⟨xs, ex_t gg.g2 hr⟩, for_tup (xs := xs) Pv h0 (fun i σ' H' hi p => ex_t (hG i σ' H' (by omega) p) hr) (fun i y σ' H' hy p => ?_) (by rw [hl]; exact hn)⟩
    obtain ⟨d, h1, h2⟩ := ha.get hy
    exact hs i d y σ' H' h1 h2 p
theorem qd_forN (x : Ex B H) (h : EvD K tl σ B (rows b ds))
    (k : ∀ v G H1, Gr B H G H1 → Dp K G v (rows b ds) → ∃ Pv : Nat → L2.St → Hp → Prop, Pv 0 σ H1 ∧ (∀ i σ' H', i ≤ ds.length → Pv i σ' H' → Ex G H') ∧
      (∀ i d y σ' H', ds[i]? = some d → Dp K G y d → Pv i σ' H' → g y σ' H' fun σ2 H2 => tu { D with nx := Pv (i + 1), ct := Pv (i + 1), bk := tz D } σ2 H2) ∧ ∀ σ' H', Pv ds.length σ' H' → tz D σ' H') : tSeq (tFor (iRow K tl) g tu) tz D σ H := sd_forN (D := { D with nx := tz D }) x h k
/-- list(range(i, j)) -/
theorem dl_listRg {i j : Int} (ha : EvD K ta σ B (.int i)) (hb : EvD K tb σ B (.int j)) (h0 : 0 ≤ i) (h1 : j ≤ 16777216) (h2 : i ≤ 16777216) (h3 : 0 ≤ j) :
    EvDL K (tLstRg (tRg2 ta tb)) σ B ((List.range (j - i).toNat).map fun n => .int (i + (n : Nat))) := fun H1 x Q q =>
  ha H1 x _ fun v G2 H2 g2 hv => hb.mono g2.hg H2 g2.g2 _ fun w G3 H3 g3 hw => by
    rw [hv.int_of, hw.int_of]
    refine ⟨i, j, rfl, rfl, .of_le h0 h1 h2 h3, fun p hp => q p _ G3 _ (fresh_back g3.g2 hp) (fresh_back (g2.h12.trans g3.h12) hp) ((g2.trans g3).trans (Gr.mut g3.g2 hp)) upd_same ?_⟩
    have all : ∀ l : List Nat, DpAll K G3 (l.map fun n => V.int (i + (n : Nat))) (l.map fun n => PyData.int (i + (n : Nat))) := fun l => by
      induction l with
      | nil => exact .nil
      | cons a l ih => exact .cons (.int _) ih
    exact all _
/-- a list + a list, both new, or known -/
theorem dl_cat (ha : EvDL K ta σ B ds) (hb : EvDL K tb σ B es) (hl : ds.length + es.length ≤ 100000) : EvDL K (tOp rCat ta tb) σ B (ds ++ es) := fun H1 x Q q =>
  ha H1 x _ fun p xs G2 H2 g0 h0 g2 hp hxs => hb.mono g2.hg H2 g2.g2 _ fun p2 ys G3 H3 g30 h30 g3 hp2 hys => by
    have hp3 := g3.h12 _ _ hp
    refine ⟨p, p2, xs, ys, rfl, rfl, hp3, hp2, sz_of (by rw [hxs.length, hys.length]; exact hl), fun p3 hp3' => q p3 _ G3 _ (fresh_back g3.g2 hp3') (fresh_back (g2.h12.trans g3.h12) hp3') ((g2.trans g3).trans (Gr.mut g3.g2 hp3')) upd_same ((dpa_mono g3.hg hxs).append hys)⟩
/-- the first n of a list that is known -/
theorem dl_first {n : Nat} (ha : EvD K ta σ B (.list ds)) (hb : EvD K tb σ B (.int (n : Int))) : EvDL K (tSl (rSlL K) ta tNoPart (tPart tb)) σ B (ds.take n) := fun H1 x Q q =>
  ha H1 x _ fun v G2 H2 g2 hv => hb.mono g2.hg H2 g2.g2 _ fun w G3 H3 g3 hw => by
    obtain ⟨a, xs, rfl, hs, hds⟩ := Dp.lst_of hv
    rw [hw.int_of]
    have hs3 := ex_l g3.hg hs
    have hds3 := dpa_mono g3.hg hds
    have hcut : cutV xs none (some (n : Int)) = xs.take n := by
      unfold cutV
      rw [HT.sIx_none, HT.sIx_nat]
      show (xs.drop 0).take (min n xs.length - 0) = xs.take n
      rw [List.drop_zero, Nat.sub_zero]
      by_cases h : n ≤ xs.length
      · rw [show min n xs.length = n by omega]
      · rw [show min n xs.length = xs.length by omega, List.take_length, List.take_of_length_le (by omega)]
    refine ⟨n, rfl, a, xs, rfl, ex_l g3.g2 hs3, fun p hp => ?_⟩
    rw [hcut]
    exact q p _ G3 _ (fresh_back g3.g2 hp) (fresh_back (g2.h12.trans g3.h12) hp) ((g2.trans g3).trans (Gr.mut g3.g2 hp)) upd_same (hds3.take n)
end
end Tb
end

section
set_option Elab.async false
set_option linter.all false
set_option maxRecDepth 100000
set_option maxHeartbeats 1000000
/-! Toss base 9: tuples multiplied and added, extend by a tuple, the least of a list, in, while. -/
namespace Tb
open PySem PySem.Spec PyProof.Rows L2 Evl

/-- the machine's tuple * 1: the tuple itself -/
theorem tm_one (l : Addr) (items : Array Value) (n : Nat) (dd : Option Addr) (sl : Array (Option Value)) (x : Int) (u : Tok) (c0 : (decide (x < -(2 ^ 63)) || decide (x ≥ 2 ^ 63)) = false) (c1 : (items.isEmpty || x == 1) = true) :
    Meets (Builtin.«tuple.__mul__» ⟨[.ref l, .int x u], []⟩) (fun _ R s => s.heap.get? l = some { cls := .type "tuple", dict := dd, data := .seq items n, slots := sl } ∧ R (.ok (.ret (Value.ref l))) s) :=
  .of_wp fun prog w A R s h => by
    obtain ⟨hp, g, d, tk, os⟩ := s
    obtain ⟨hl, h⟩ := h
    have f1 := AutoSeq1.idx_int
    wp_walk using wpAny_loadPart' hl
    repeat (first
      | (refine wpAny_ite_false (decide_eq_false (by rw [c0]; exact Bool.false_ne_true)) ?_; wp_walk using wpAny_loadPart' hl)
      | (refine wpAny_ite_true (decide_eq_true c1) ?_; wp_walk using wpAny_loadPart' hl))
    exact ⟨_, rfl, h⟩
/-- the machine's tuple * 0: an empty tuple -/
theorem tm_none (l : Addr) (items : Array Value) (n : Nat) (dd : Option Addr) (sl : Array (Option Value)) (x : Int) (u : Tok) (c0 : (decide (x < -(2 ^ 63)) || decide (x ≥ 2 ^ 63)) = false) (c1 : (items.isEmpty || x == 1) = false) (c2 : (decide (x ≤ 0) || items.isEmpty) = true) :
    Meets (Builtin.«tuple.__mul__» ⟨[.ref l, .int x u], []⟩) (fun _ R s => s.heap.get? l = some { cls := .type "tuple", dict := dd, data := .seq items n, slots := sl } ∧
      R (.ok (.ret (Value.ref s.heap.objs.size))) { s with heap := s.heap.push { cls := Value.type "tuple", data := Data.seq #[] }, toks := s.toks }) :=
  .of_wp fun prog w A R s h => by
    obtain ⟨hp, g, d, tk, os⟩ := s
    obtain ⟨hl, h⟩ := h
    have f1 := AutoSeq1.idx_int
    wp_walk using wpAny_loadPart' hl
    repeat (first
      | (refine wpAny_ite_false (decide_eq_false (by rw [c0]; exact Bool.false_ne_true)) ?_; wp_walk using wpAny_loadPart' hl)
      | (refine wpAny_ite_false (decide_eq_false (by rw [c1]; exact Bool.false_ne_true)) ?_; wp_walk using wpAny_loadPart' hl)
      | (refine wpAny_ite_true (decide_eq_true c2) ?_; wp_walk using wpAny_loadPart' hl))
    exact ⟨_, rfl, h⟩
/-- tuple * int, of any number up to 1,000 -/
def rRepA (K : PySem.W.Frag) : R2 := fun x y H Q => ∃ l k xs, x = .ref l ∧ y = .int k ∧ SqT K H l xs ∧ xs ≠ [] ∧ 0 ≤ k ∧ k ≤ 1000 ∧ xs.length ≤ 1000 ∧ (k = 1 → Q (.ref l) H) ∧ (k ≠ 1 → ∀ p, H p = none → Q (.ref p) (upd H p (.tup (List.replicate k.toNat xs).flatten)))
section
variable {X : Cx}
theorem op_repA : OpR X (binaryOp .Mult) (rRepA X.K) := by
  intro pins s σ H x y v u Q I rx ry h
  obtain ⟨l, k, xs, rfl, rfl, hT, hne, h0, h1, hz, q1, q2⟩ := h
  by_cases hk2 : 2 ≤ k
  · exact op_repT pins s σ H _ _ v u Q I rx ry ⟨l, k, xs, rfl, rfl, hT, hne, hk2, h1, hz, q2 (by omega)⟩
  cases rx
  obtain ⟨t, rfl⟩ := ry
  obtain ⟨its, r, ⟨⟨cls, dd, data, sl⟩, ho, hc, n, hd⟩, hs⟩ := I.tuple hT
  simp only at hc hd
  subst hc hd
  have hle : its.length = xs.length := r.length.symm
  have hn : its ≠ [] := fun e => hne (by
    rw [e] at hle
    exact List.eq_nil_of_length_eq_zero hle.symm)
  have hi : its.toArray.isEmpty = false := by
    cases its with
    | nil => exact absurd rfl hn
    | cons a b => rfl
  have c0 : (decide (k < -(2 ^ 63)) || decide (k ≥ 2 ^ 63)) = false := by
    rw [decide_eq_false (by omega), decide_eq_false (by omega)] <;> rfl
  by_cases hk1 : k = 1
  · have c1 : (its.toArray.isEmpty || k == 1) = true := by
      rw [hi, Bool.false_or]
      exact beq_iff_eq.mpr hk1
    exact wpAny_binaryOp_repeat_ref (T := "tuple") (U := "int") (by decide) ⟨_, ho, rfl⟩ (fun s' => typeIs_int s' k t) noFill_tuple_mul F.fills_int_mul F.slot_int_rmul repeat_tuple F.slot_int_index.lookup
      (call_meets F.slot_int_rmul (typeIs_int s k t) F.entry_int_rmul (F.args_int_rmul_2 _ _) (int_rmul_tuple k t l its.toArray n dd sl)
        ⟨ho, rfl, ⟨_, ho, rfl⟩, call_meets F.slot_tuple_mul ⟨_, ho, rfl⟩ F.entry_tuple_mul (F.args_tuple_mul_2 _ _) (tm_one l its.toArray n dd sl k t c0 c1) ⟨ho, .ref l, H, I, rfl, q1 hk1⟩⟩)
  · have c1 : (its.toArray.isEmpty || k == 1) = false := by
      rw [hi, Bool.false_or]
      exact beq_eq_false_iff_ne.mpr hk1
    have k0 : k = 0 := by omega
    have c2 : (decide (k ≤ 0) || its.toArray.isEmpty) = true := by
      rw [decide_eq_true (by omega)]
      rfl
    refine wpAny_binaryOp_repeat_ref (T := "tuple") (U := "int") (by decide) ⟨_, ho, rfl⟩ (fun s' => typeIs_int s' k t) noFill_tuple_mul F.fills_int_mul F.slot_int_rmul repeat_tuple F.slot_int_index.lookup
      (call_meets F.slot_int_rmul (typeIs_int s k t) F.entry_int_rmul (F.args_int_rmul_2 _ _) (int_rmul_tuple k t l its.toArray n dd sl)
        ⟨ho, rfl, ⟨_, ho, rfl⟩, call_meets F.slot_tuple_mul ⟨_, ho, rfl⟩ F.entry_tuple_mul (F.args_tuple_mul_2 _ _) (tm_none l its.toArray n dd sl k t c0 c1 c2) ⟨ho, ?_⟩⟩)
    refine ⟨.ref s.heap.objs.size, _, I.laid (t' := s.toks) (o := .tup (List.replicate k.toNat xs).flatten) (fun b ob q => Heap.get?_push_of_some _ q) (Nat.le_refl _) ?_, rfl, q2 hk1 _ (I.hok.fresh (Nat.le_refl _))⟩
    subst k0
    exact ⟨Nat.zero_le _, [], .nil, IsTup.new _ _⟩
/-- the machine's list.extend by a tuple -/
theorem ext_tup (l : Addr) (items : Array Value) (n : Nat) (b : Addr) (items2 : Array Value) (n2 : Nat) (dd : Option Addr) (sl : Array (Option Value)) (hs0 : ¬(!items.isEmpty && Builtin.List.listTooLong (items.size + items2.size)) = true) (hs1 : items.size ≤ sizeLine) (hs2 : items.size + items2.size ≤ sizeLine + 1) :
    Meets (Builtin.«list.extend» ⟨[.ref l, .ref b], []⟩) (fun _ R s => s.heap.get? l = some { cls := .type "list", dict := none, data := .seq items n, slots := #[] } ∧ s.heap.get? b = some { cls := .type "tuple", dict := dd, data := .seq items2 n2, slots := sl } ∧ R (.ok (.ret Value.none)) { s with heap := s.heap.update l (Obj.mapSeq fun x => x ++ items2), toks := s.toks }) :=
  .of_wp fun prog w A R s h => by
    obtain ⟨hp, g, d, tk, os⟩ := s
    obtain ⟨hl, hb, h⟩ := h
    have f1 := AutoSeq1.idx_int
    have f2 := AutoSeq1.sub_tuple_tuple
    have f3 := AutoSeq1.sub_list_list
    have f4 := AutoSeq1.sub_tuple_list
    have f5 := AutoSeq1.sub_list_tuple
    have hz' : (items ++ items2).size ≤ sizeLine + 1 := by
      rw [Array.size_append]
      exact hs2
    wp_walk using (wpAny_updateSeq hl rfl (hz := hs1) (_hz' := hz')), wpAny_loadPart' hl, wpAny_loadPart' hb
    exact ⟨_, rfl, h⟩
def rExtA (K : PySem.W.Frag) : V → List V → Hp → VK → Prop := fun x vs H Q => ∃ l b xs zs, x = .ref l ∧ vs = [.ref b] ∧ H l = some (.lst xs) ∧ SqT K H b zs ∧ xs.length + zs.length ≤ sizeLine ∧ Q .non (upd H l (.lst (xs ++ zs)))
theorem mt_extA : MtM X "list.extend" (rExtA X.K) := by
  intro pins s σ H x vs v us Q I rx rv h
  obtain ⟨l, b, xs, zs, rfl, rfl, hH, hB, hz, q⟩ := h
  cases rx
  obtain ⟨u, rfl, ru⟩ := rv.one
  cases ru
  obtain ⟨z, its, n, r, hl, e⟩ := I.lstM hH
  obtain ⟨its2, r2, ⟨⟨cls, dd, data, sl⟩, ho, hc, n2, hd⟩, hs⟩ := I.tuple hB
  simp only at hc hd
  subst hc hd
  have hl2 := r2.length
  have hsz : its.toArray.size + its2.toArray.size ≤ sizeLine := by rw [List.size_toArray, List.size_toArray]; omega
  have hlong : ¬ (!its.toArray.isEmpty && Builtin.List.listTooLong (its.toArray.size + its2.toArray.size)) = true := by
    rw [notLongL hsz, Bool.and_false]
    exact Bool.false_ne_true
  refine call_meets F.slot_list_extend ⟨_, e, rfl⟩ F.entry_list_extend (F.args_list_extend_2 _ _)
    (ext_tup l its.toArray n b its2.toArray n2 dd sl hlong (by rw [List.size_toArray]; omega) (by omega)) ⟨e, ho, ?_⟩
  refine ⟨.non, _, I.lset (its' := its ++ its2) hH e (by simp) (r.append r2) ?_, rfl, q⟩
  rw [List.length_append]
  omega
/-- the least of a list of ints -/
def rMinL (K : PySem.W.Frag) : List V → Hp → VK → Prop := fun xs H Q => ∃ (a : Addr) (n : Int) (ns : List Int), xs = [.ref a] ∧ SqL K H a ((n :: ns).map V.int) ∧ Q (.int (ns.foldl min n)) H
theorem call_minLI (hc : X.calm = true) (hu : X.A.units + 64 < cLine) : CallR X (.builtin "min") (rMinL X.K) := by
  intro pns st σ H xs us Q I r h
  obtain ⟨a, n, ns, rfl, hs, q⟩ := h
  obtain ⟨u, rfl, ru⟩ := vals1 r
  cases ru
  obtain ⟨its, rv, pl, _⟩ := I.list hs
  obtain ⟨as, hr⟩ := Dp.readsAll I ((n :: ns).map .int) _ its (DpAll.of_ints (n :: ns)) rv
  have hd := depth_ints (n :: ns)
  rw [List.map_cons] at hr hd
  refine PySem.W.min_list_data (I.ok.hd hc) pl.isList (by simpa using hr) (alike_ints (n :: ns)) (by omega) fun i v h' tk bs hv hr' hk => ?_
  rw [PySem.W.minD_ints] at hr'
  cases hr' with
  | int _ t => exact ⟨.int _, H, I.kept hk, ⟨_, rfl⟩, q⟩
end
section
variable {K : PySem.W.Frag} {σ : L2.St} {B H : Hp} {d e z : PyData} {ds es : List PyData} {D : Ends} {tu tz : TS} {t : TT} {te : TE} {b : Bool}
theorem dpa_rep {xs : List V} (n : Nat) (h : DpAll K H xs ds) : DpAll K H (List.replicate n xs).flatten (List.replicate n ds).flatten := by
  induction n with
  | zero => exact .nil
  | succ n ih =>
    rw [List.replicate_succ, List.replicate_succ, List.flatten_cons, List.flatten_cons]
    exact h.append ih
theorem rd_repA {k : Int} (hne : ds ≠ []) (h0 : 0 ≤ k) (h1 : k ≤ 1000) (hl : ds.length ≤ 1000) : RD K (rRepA K) (.tuple ds) (.int k) H (.tuple (List.replicate k.toNat ds).flatten) := fun x y H1 ex hx hy Q q => by
  obtain ⟨a, xs, rfl, hs, hd⟩ := Dp.tup_of hx
  have hlen := hd.length
  refine ⟨a, k, xs, rfl, hy.int_of, ex_t ex hs, fun z => ?_, h0, h1, by omega, fun e => ?_, fun _ p hp => ?_⟩
  · rw [z] at hlen
    exact hne (List.eq_nil_of_length_eq_zero hlen.symm)
  · subst e
    refine q _ H H1 (.refl ex) ?_
    show Dp K H (.ref a) (.tuple (ds ++ []))
    rw [List.append_nil]
    exact .tup hs hd
  · exact q _ _ _ (Gr.new ex hp) (.tup (st_of upd_same) (dpa_mono (Ex.new (fresh_back ex hp)) (dpa_rep _ hd)))
theorem rd_catA (hl : ds.length + es.length ≤ 100000) : RD K (rCatA K) (.tuple ds) (.tuple es) H (.tuple (ds ++ es)) := fun x y H1 ex hx hy Q q => by
  obtain ⟨a, xs, rfl, hs, hd⟩ := Dp.tup_of hx
  obtain ⟨b, ys, rfl, hs2, hd2⟩ := Dp.tup_of hy
  have e1 := hd.length
  have e2 := hd2.length
  refine ⟨a, b, xs, ys, rfl, rfl, ex_t ex hs, ex_t ex hs2, sz_of (by omega), fun z => ?_, fun _ z => ?_, fun _ _ p hp => ?_⟩
  · subst z
    cases hd
    exact q _ H H1 (.refl ex) hy
  · subst z
    cases hd2
    rw [List.append_nil] at q
    exact q _ H H1 (.refl ex) hx
  · exact q _ _ _ (Gr.new ex hp) (.tup (st_of upd_same) (dpa_mono (Ex.new (fresh_back ex hp)) (hd.append hd2)))
theorem rcd_minL {n : Int} {ns : List Int} : RCD K (rMinL K) [.list ((n :: ns).map .int)] H (.int (ns.foldl min n)) := fun vs H1 x hd Q q => by
  cases hd with
  | cons h h0 =>
    cases h0
    obtain ⟨a, xs, rfl, hs, hds⟩ := Dp.lst_of h
    have e := DpAll.ints (ns := n :: ns) hds
    subst e
    exact ⟨a, n, ns, rfl, ex_l x hs, q _ H H1 (.refl x) (.int _)⟩
theorem rd_inI {i : Int} {ns : List Int} {neg : Bool} : RD K (rIn K neg) (.int i) (rows b (ns.map .int)) H (.bool (if neg then !(ns.any (· == i)) else ns.any (· == i))) := fun x y H1 ex hx hy Q q => by
  obtain ⟨a, xs, rfl, hr, hd⟩ := row_of hy
  have e := hd.ints
  subst e
  rw [hx.int_of]
  refine ⟨a, _, rfl, row_mono ex hr, rfl, by simp [flatV], ?_⟩
  have e2 : inV (.int i) (ns.map V.int) = ns.any (· == i) := by
    unfold inV
    rw [List.any_map]
    rfl
  rw [e2]
  exact q _ H H1 (.refl ex) (.bl _)
theorem dpa_strs : ∀ {vs : List V} {zs : List Str}, DpAll K H vs (zs.map .str) → vs = zs.map V.str
  | _, [], .nil => rfl
  | _, z :: zs, .cons r a => by
    rw [Dp.str_of r, dpa_strs a]
    rfl
theorem rd_inZ {i : Str} {zs : List Str} {neg : Bool} : RD K (rIn K neg) (.str i) (rows b (zs.map .str)) H (.bool (if neg then !(zs.any (· == i)) else zs.any (· == i))) := fun x y H1 ex hx hy Q q => by
  obtain ⟨a, xs, rfl, hr, hd⟩ := row_of hy
  have e := dpa_strs hd
  subst e
  rw [hx.str_of]
  refine ⟨a, _, rfl, row_mono ex hr, rfl, by simp [flatV], ?_⟩
  have e2 : inV (.str i) (zs.map V.str) = zs.any (· == i) := by
    unfold inV
    rw [List.any_map]
    rfl
  rw [e2]
  exact q _ H H1 (.refl ex) (.bl _)
/-- name.extend(a tuple) -/
theorem qd_extA {j : Nat} {l : Addr} {xs : List V} (x : Ex B H) (hl : H l = some (.lst xs)) (h0 : B l = none) (hj : σ[j]? = some (some (.ref l))) (h : EvD K te σ B (.tuple ds)) (hz : xs.length + ds.length ≤ 100000)
    (k : ∀ zs G H2, Gr B H G H2 → G l = none → H2 l = some (.lst xs) → DpAll K G zs ds → tz D σ (upd H2 l (.lst (xs ++ zs)))) : tSeq (tDrop (tBM K "list" (rExtA K) (tVar j) (tCons te tNil))) tz D σ H :=
  ⟨_, hj, .inl ⟨rfl, xs, sq_of hl⟩, h H x _ fun w G H2 g hw => by
    obtain ⟨b, zs, rfl, hs, hd⟩ := Dp.tup_of hw
    have h2 : H2 l = some (.lst xs) := g.h12 _ _ hl
    exact ⟨l, b, xs, zs, rfl, rfl, h2, ex_t g.g2 hs, sz_of (by have := hd.length; omega), k zs G H2 g (g.sep l h0 (by rw [hl]; exact fun z => nomatch z)) h2 hd⟩⟩
/-- while: W m is the word, m a number that falls -/
theorem sd_while (W : Nat → L2.St → Hp → Prop) (m0 : Nat) (h0 : W m0 σ H)
    (hs : ∀ m σ' H', W m σ' H' → ∃ (b : Bool) (G : Hp), Ex G H' ∧ EvT t σ' G b ∧ (b = true → ∀ H1, Ex H' H1 → ∃ N : L2.St → Hp → Prop, (∀ σ2 H2, N σ2 H2 → ∃ m', m' < m ∧ W m' σ2 H2) ∧ tu { D with nx := N, ct := N, bk := D.nx } σ' H1) ∧ (b = false → ∀ H1, Ex H' H1 → D.nx σ' H1)) : tWhile t tu D σ H :=
  ⟨W, ⟨m0, h0⟩, fun m σ' H' hw => by
    obtain ⟨b, G, x, hb, h1, h2⟩ := hs m σ' H' hw
    refine hb H' x _ fun H1 e => ?_
    cases b with
    | true => exact h1 rfl H1 e
    | false => exact h2 rfl H1 e⟩
theorem qd_while (W : Nat → L2.St → Hp → Prop) (m0 : Nat) (h0 : W m0 σ H)
    (hs : ∀ m σ' H', W m σ' H' → ∃ (b : Bool) (G : Hp), Ex G H' ∧ EvT t σ' G b ∧ (b = true → ∀ H1, Ex H' H1 → ∃ N : L2.St → Hp → Prop, (∀ σ2 H2, N σ2 H2 → ∃ m', m' < m ∧ W m' σ2 H2) ∧ tu { D with nx := N, ct := N, bk := tz D } σ' H1) ∧ (b = false → ∀ H1, Ex H' H1 → tz D σ' H1)) : tSeq (tWhile t tu) tz D σ H := sd_while (D := { D with nx := tz D }) W m0 h0 hs
end
end Tb
end

section
set_option Elab.async false
set_option linter.all false
set_option maxRecDepth 100000
set_option maxHeartbeats 400000
/-! Toss base 10: defs that raise; own exceptions with one field. -/
namespace Tb
open PySem PySem.Spec PyProof.Rows L2 Evl

/-- as has_mk, for a def that may raise -/
theorem has_mkX {P : Program} {w : World} {K : PySem.W.Frag} {mg : Str → Option Value} {base : Heap} {x qual : Str} {st : Stmt} {f : Addr} {fd : FuncData} {k : Nat} {N ps : List Str} {sp : Sp}
    (F : FunD K x qual (defArgs st) (defBody st) (defScope st) [] [] f fd) (hm : mg x = some (.ref f)) (S : FnScope N ps (defScope st)) (len : ∀ vs H Q E, sp vs H Q E → vs.length = ps.length)
    (h : ∀ (kV doc pm : Value) (an : Option Addr) (cdv ct : Value) (us : List Value), us.length = ps.length → bindArgs (PySem.W.fnOf x qual (defArgs st) (defBody st) (defScope st) .none kV doc pm an cdv ct) ⟨us, []⟩ = pure (ps.zip us))
    (body : ∀ (cdv : Value) (A : Around) (outer : List Env) (s : Shared) (H : Hp) (vs : List V) (Q : VK) (E : XK), Room k (A.deeper (envOfC qual (defScope st) s.heap.objs.size f cdv)) → sp vs H Q E →
      ∃ t, PSs (cxOf (L2.CX P w) P w K mg base N qual (defScope st) f cdv A outer s H E) (defBody st) t ∧ t { nx := fun _ H' => Q .non H', rt := Q } (start N vs) H) :
    Has P w K mg base (L2.CX P w) x (k + 1) ps [] sp := has_of F hm (F.ok S len body) h
/-- C.__init__(self, x): self.f = x -/
def spInit1 (K : PySem.W.Frag) (f : Str) : Sp := fun vs H Q _ => ∃ (a C : Addr) (y : V), vs = [.ref a, y] ∧ OexC K C ∧ PySem.W.findIn K (.ref C) f = some none ∧ H a = some (exo a C none) ∧ ∀ dx, H dx = none → dx ≠ a → Q .non (upd (upd H dx (exd dx [(f, y)])) a (exo a C (some dx)))
/-- C(e): the exception's dict, new, beside all that stood -/
theorem mk_one {K : PySem.W.Frag} {C : Addr} {f : Str} {σ : L2.St} {B H : Hp} {te : TE} {k : Int} {Q : XK} (T : OexC K C) (hno : PySem.W.findIn K (.ref C) f = some none) (x : Ex B H) (h : EvD K te σ B (.int k))
    (q : ∀ d H', Ex H H' → H d = none → H' d = some (.xd [(f, .int k)]) → Q (.ref C) (some d) H') : tMkO C (spInit1 K f) [] (tCons te tNil) σ H Q := by
  refine h H x _ fun v G H1 g hv => ⟨by show 1 ≤ 1000; decide, fun a ha => ⟨a, C, v, rfl, T, hno, upd_same, fun dx hdx ne => ?_⟩⟩
  have dn : H1 dx = none := by rw [upd_ne ne] at hdx; exact hdx
  refine ⟨rfl, dx, [(f, v)], upd_same, ?_, dn, ?_⟩
  · rw [upd_ne ne, upd_same]
  · rw [hv.int_of]
    refine q dx _ (g.h12.trans fun b o hb => ?_) (fresh_back g.h12 dn) upd_same
    have b1 : b ≠ dx := ne_of_none hb dn
    have b2 : b ≠ a := ne_of_none hb ha
    rw [upd_ne b1, del_ne b2, upd_ne b2, upd_ne b1, upd_ne b2]
    exact hb
end Tb
end

section
set_option Elab.async false
set_option linter.all false
set_option maxRecDepth 100000
set_option maxHeartbeats 1000000
/-! Toss base 11: the max of a list, with a default. -/
namespace Tb
open PySem PySem.Spec PyProof.Rows L2 Evl
def rMaxDfL (K : PySem.W.Frag) : List V → List V → Hp → VK → Prop := fun vs zs H Q => ∃ a ns d0, vs = [.ref a] ∧ zs = [.int d0] ∧ SqL K H a (ns.map V.int) ∧ Q (.int (maxOf d0 ns)) H
theorem cr_maxDfL {X : Cx} (hc : X.calm = true) (hu : X.A.units + 64 < cLine) : CallRK X (.builtin "max") [Str.ofString "default"] (rMaxDfL X.K) := by
  intro pns st σ H vs zs us ws Q I r r2 h
  obtain ⟨a, ns, d0, rfl, rfl, hs, q⟩ := h
  obtain ⟨its, rv, ht, _⟩ := I.list hs
  obtain ⟨as, hr⟩ := Dp.readsAll I (ns.map .int) _ its (DpAll.of_ints ns) rv
  rw [Vals.ref1 r]
  cases r2 with
  | cons z zz =>
    cases zz
    obtain ⟨tk0, rfl⟩ := z
    have hd := depth_ints ns
    refine PySem.W.max_list_default (I.ok.hd hc) ht.isList (by simpa using hr) (alike_ints ns) (by omega) (fun h0 h' tk hk => ?_) fun y ys i v h' tk bs hy hv hr' hk => ?_
    · cases ns with
      | nil => exact ⟨.int d0, H, I.kept hk, ⟨_, rfl⟩, q⟩
      | cons n ns => cases h0
    · cases ns with
      | nil => cases hy
      | cons n ns =>
        rw [List.map_cons] at hy
        injection hy with e1 e2
        subst e1 e2
        rw [PySem.W.maxD_ints] at hr'
        cases hr' with
        | int _ t => exact ⟨.int _, H, I.kept hk, ⟨_, rfl⟩, q⟩
section
variable {K : PySem.W.Frag} {σ : L2.St} {H : Hp} {te : TE}
theorem d_maxDfL {ns : List Int} {d0 : Int} (h : EvD K te σ H (.list (ns.map .int))) : EvD K (tCKw (rMaxDfL K) (tCons te tNil) (tCons (tC (.int d0)) tNil)) σ H (.int (maxOf d0 ns)) := fun H1 x Q q =>
  h H1 x _ fun v G H2 g hd => by
    obtain ⟨a, xs, rfl, hs, ha⟩ := Dp.lst_of hd
    rw [ha.ints] at hs
    exact ⟨a, ns, d0, rfl, rfl, ex_l g.g2 hs, q _ G H2 g (.int _)⟩
end
end Tb
end

section
set_option Elab.async false
set_option linter.all false
set_option maxRecDepth 100000
set_option maxHeartbeats 1000000
/-! k01, the program's checks. -/
namespace Tk
open PySem PySem.Spec PyProof.Rows L2 Evl Tb
def topS (i : Nat) : Stmt := PySem.Challenge.pw_tosslanes_k01_towers_and_lanes.main.body.getD i (.Pass ⟨0, 0, 0, 0⟩)
abbrev s_is_whole : Stmt := topS 6
abbrev n_is_whole : List Str := ["thing"]
theorem sc_is_whole : FnScope n_is_whole ["thing"] (defScope s_is_whole) := ⟨rfl, rfl, rfl, by decide +kernel, rfl, by decide +kernel, by decide +kernel⟩

abbrev s_is_row : Stmt := topS 7
abbrev n_is_row : List Str := ["thing"]
theorem sc_is_row : FnScope n_is_row ["thing"] (defScope s_is_row) := ⟨rfl, rfl, rfl, by decide +kernel, rfl, by decide +kernel, by decide +kernel⟩

abbrev s_is_pair : Stmt := topS 21
abbrev n_is_pair : List Str := ["thing", "key", "height"]
theorem sc_is_pair : FnScope n_is_pair ["thing"] (defScope s_is_pair) := ⟨rfl, rfl, rfl, by decide +kernel, rfl, by decide +kernel, by decide +kernel⟩

abbrev s_check_key : Stmt := topS 9
abbrev n_check_key : List Str := ["key"]
theorem sc_check_key : FnScope n_check_key ["key"] (defScope s_check_key) := ⟨rfl, rfl, rfl, by decide +kernel, rfl, by decide +kernel, by decide +kernel⟩

abbrev s_wrong_tower : Stmt := topS 19
abbrev n_wrong_tower : List Str := ["thing", "index", "pair"]
theorem sc_wrong_tower : FnScope n_wrong_tower ["thing"] (defScope s_wrong_tower) := ⟨rfl, rfl, rfl, by decide +kernel, rfl, by decide +kernel, by decide +kernel⟩

abbrev s_check_towers : Stmt := topS 18
abbrev n_check_towers : List Str := ["towers", "index"]
theorem sc_check_towers : FnScope n_check_towers ["towers"] (defScope s_check_towers) := ⟨rfl, rfl, rfl, by decide +kernel, rfl, by decide +kernel, by decide +kernel⟩

abbrev s_is_towers : Stmt := topS 11
abbrev n_is_towers : List Str := ["thing"]
theorem sc_is_towers : FnScope n_is_towers ["thing"] (defScope s_is_towers) := ⟨rfl, rfl, rfl, by decide +kernel, rfl, by decide +kernel, by decide +kernel⟩

/-! ### what they tell -/
def wholeD : PyData → Bool
  | .int _ => true
  | _ => false
def rowD : PyData → Bool
  | .list _ => true
  | .tuple _ => true
  | _ => false
def R_is_whole (ds : List PyData) (z : PyData) : Prop := ∃ d, ds = [d] ∧ z = .bool (wholeD d)
def R_is_row (ds : List PyData) (z : PyData) : Prop := ∃ d, ds = [d] ∧ z = .bool (rowD d)
def itemsD : PyData → Option (List PyData)
  | .list ds => some ds
  | .tuple ds => some ds
  | _ => none
def pk : PyData → PyData → Option Int
  | .int k, .int h => if 1 ≤ h then some k else none
  | _, _ => none
/-- the key of what is a pair (key, height) -/
def pairKey (d : PyData) : Option Int := match itemsD d with
  | some [x, y] => pk x y
  | _ => none
def R_is_pair (ds : List PyData) (z : PyData) : Prop := ∃ d, ds = [d] ∧ z = .bool (pairKey d).isSome
def R_check_key (ds : List PyData) (z : PyData) : Prop := ∃ k, ds = [.int k] ∧ z = .none
def nbh (p : Option Int) (k : Int) : Bool := match p with
  | some q => decide (k ≤ q)
  | none => false
/-- the first element that is no pair, or not behind the one before it -/
def wrongAt (prev : Option Int) (i : Nat) : List PyData → Option Nat
  | [] => none
  | d :: ds => match pairKey d with
    | none => some i
    | some k => if nbh prev k = true then some i else wrongAt (some k) (i + 1) ds
def wrongD (d : PyData) : PyData := match itemsD d with
  | none => .int (-1)
  | some ds => match wrongAt none 0 ds with
    | none => .none
    | some i => .int i
def R_wrong_tower (ds : List PyData) (z : PyData) : Prop := ∃ d, ds = [d] ∧ z = wrongD d
def R_is_towers (ds : List PyData) (z : PyData) : Prop := ∃ d, ds = [d] ∧ z = .bool (isNonD (wrongD d))
def R_check_towers (ds : List PyData) (z : PyData) : Prop := ∃ d, ds = [d] ∧ wrongD d = .none ∧ z = .none
theorem row_shape {d : PyData} (h : rowD d = true) : ∃ b es, d = rows b es := by
  cases d <;> (first | (exfalso; exact Bool.noConfusion h) | skip)
  · exact ⟨true, _, rfl⟩
  · exact ⟨false, _, rfl⟩
theorem rowD_rows (b : Bool) (es : List PyData) : rowD (rows b es) = true := by cases b <;> rfl
theorem itemsD_rows (b : Bool) (es : List PyData) : itemsD (rows b es) = some es := by cases b <;> rfl
theorem items_none {d : PyData} (h : rowD d = false) : itemsD d = none := by cases d <;> first | rfl | exact Bool.noConfusion h
theorem pairKey_none {d : PyData} (h : rowD d = false) : pairKey d = none := by
  unfold pairKey
  rw [items_none h]
def geOne : PyData → Bool
  | .int h => decide (1 ≤ h)
  | _ => false
theorem pairKey_two (b : Bool) (x y : PyData) : (pairKey (rows b [x, y])).isSome = (wholeD x && (wholeD y && geOne y)) := by
  unfold pairKey
  rw [itemsD_rows]
  show (pk x y).isSome = _
  cases x <;> cases y <;> (first | rfl | (show (if _ then _ else _ : Option Int).isSome = _; unfold geOne wholeD; split <;> simp_all))
theorem pairKey_len {b : Bool} {es : List PyData} (h : es.length ≠ 2) : pairKey (rows b es) = none := by
  unfold pairKey
  rw [itemsD_rows]
  match es, h with
  | [], _ => rfl
  | [_], _ => rfl
  | [_, _], h => exact absurd rfl h
  | _ :: _ :: _ :: _, _ => rfl
section
variable {K : PySem.W.Frag} {σ : L2.St} {B : Hp} {te : TE} {d : PyData} {E : XK}
theorem pairKey_some {d : PyData} {k : Int} (h : pairKey d = some k) : ∃ b h, d = rows b [.int k, .int h] ∧ 1 ≤ h := by
  cases hw : rowD d with
  | false =>
    rw [pairKey_none hw] at h
    cases h
  | true =>
    obtain ⟨b, es, rfl⟩ := row_shape hw
    by_cases hl : es.length = 2
    · match es, hl with
      | [x, y], _ =>
        unfold pairKey at h
        rw [itemsD_rows] at h
        replace h : pk x y = some k := h
        cases x <;> cases y <;> (first | (replace h : (none : Option Int) = some k := h; cases h; done) | skip)
        rename_i i j hlen
        replace h : (if 1 ≤ j then some i else none) = some k := h
        by_cases hj : 1 ≤ j
        · rw [if_pos hj] at h
          cases h
          exact ⟨b, j, rfl, hj⟩
        · rw [if_neg hj] at h
          cases h
    · rw [pairKey_len hl] at h
      cases h
theorem wrongD_rows (b : Bool) (ds : List PyData) : wrongD (rows b ds) = (match wrongAt none 0 ds with | none => .none | some i => .int i) := by
  unfold wrongD
  rw [itemsD_rows]
theorem u_is_whole (h : EvD K te σ B d) : EvD K (tCall (spP K 1 R_is_whole) [] E (tCons te tNil)) σ B (.bool (wholeD d)) := d_call (da_cons h da_nil) (sp_P rfl ⟨d, rfl, rfl⟩)
theorem u_is_row (h : EvD K te σ B d) : EvD K (tCall (spP K 1 R_is_row) [] E (tCons te tNil)) σ B (.bool (rowD d)) := d_call (da_cons h da_nil) (sp_P rfl ⟨d, rfl, rfl⟩)
theorem u_is_pair (h : EvD K te σ B d) : EvD K (tCall (spP K 1 R_is_pair) [] E (tCons te tNil)) σ B (.bool (pairKey d).isSome) := d_call (da_cons h da_nil) (sp_P rfl ⟨d, rfl, rfl⟩)
theorem u_wrong_tower (h : EvD K te σ B d) : EvD K (tCall (spP K 1 R_wrong_tower) [] E (tCons te tNil)) σ B (wrongD d) := d_call (da_cons h da_nil) (sp_P rfl ⟨d, rfl, rfl⟩)
theorem u_is_towers (h : EvD K te σ B d) : EvD K (tCall (spP K 1 R_is_towers) [] E (tCons te tNil)) σ B (.bool (isNonD (wrongD d))) := d_call (da_cons h da_nil) (sp_P rfl ⟨d, rfl, rfl⟩)
theorem u_check_towers (h : EvD K te σ B d) (hw : wrongD d = .none) : EvD K (tCall (spP K 1 R_check_towers) [] E (tCons te tNil)) σ B .none := d_call (da_cons h da_nil) (sp_P rfl ⟨d, rfl, hw, rfl⟩)
theorem u_check_key {k : Int} (h : EvD K te σ B (.int k)) : EvD K (tCall (spP K 1 R_check_key) [] E (tCons te tNil)) σ B .none := d_call (da_cons h da_nil) (sp_P rfl ⟨k, rfl, rfl⟩)
end
section
variable {P : Program} {w : World} {K : PySem.W.Frag} {mg : Str → Option Value} {base : Heap} {CX : CXT}
theorem H_is_whole {f : Addr} {fd : FuncData} (bl : Bl mg) (F : FunD K "is_whole" "is_whole" (defArgs s_is_whole) (defBody s_is_whole) (defScope s_is_whole) [] [] f fd) (hm : mg "is_whole" = some (.ref f)) :
    Has P w K mg base CX "is_whole" 1 ["thing"] [] (spP K 1 R_is_whole) := by
  refine has_mk F hm sc_is_whole (spP_len rfl) (fun _ _ _ _ _ _ us hl => match us, hl with | [_], _ => rfl) fun cdv A outer s H vs Q E hr h => ?_
  obtain ⟨B, ds, z, x, hl, hd, ⟨d, rfl, rfl⟩, q⟩ := h
  cases hd with
  | cons h1 h0 =>
    cases h0
    refine ⟨_, (pss_one (ps_ret (pe_and (pe_callB call_isi (by rfl) bl.isinstance bb_isinstance (pa_cons (pv 0) (pa_cons (pe_bltn (v := .ty "int") (by rfl) bl.int bb_int rfl) pa_nil))) (pe_one (pe_not (pe_callB call_isi (by rfl) bl.isinstance bb_isinstance (pa_cons (pv 0) (pa_cons (pe_bltn (v := .ty "bool") (by rfl) bl.bool bb_bool rfl) pa_nil)))))))), ?_⟩
    refine sd_ret x (d_is (d_and (d_isi (d_var rfl h1) kit_int) fun _ => d_not (d_isi (d_var rfl h1) kit_bool)) ?_) fun v G H1 g hv => q v G H1 g hv
    cases d <;> rfl
theorem H_is_row {f : Addr} {fd : FuncData} (bl : Bl mg) (F : FunD K "is_row" "is_row" (defArgs s_is_row) (defBody s_is_row) (defScope s_is_row) [] [] f fd) (hm : mg "is_row" = some (.ref f)) :
    Has P w K mg base CX "is_row" 1 ["thing"] [] (spP K 1 R_is_row) := by
  refine has_mk F hm sc_is_row (spP_len rfl) (fun _ _ _ _ _ _ us hl => match us, hl with | [_], _ => rfl) fun cdv A outer s H vs Q E hr h => ?_
  obtain ⟨B, ds, z, x, hl, hd, ⟨d, rfl, rfl⟩, q⟩ := h
  cases hd with
  | cons h1 h0 =>
    cases h0
    refine ⟨_, (pss_one (ps_ret (pe_callB call_isiT (by rfl) bl.isinstance bb_isinstance (pa_cons (pv 0) (pa_cons (pe_tup (pa_cons (pe_bltn (v := .ty "list") (by rfl) bl.list bb_list rfl) (pa_cons (pe_bltn (v := .ty "tuple") (by rfl) bl.tuple bb_tuple rfl) pa_nil))) pa_nil))))), ?_⟩
    refine sd_ret x (d_is (d_isi2 (d_var rfl h1) kit_list kit_tuple) ?_) fun v G H1 g hv => q v G H1 g hv
    cases d <;> rfl

theorem H_check_key {f : Addr} {fd : FuncData} (nx : NoX CX) (G_is_whole : Has P w K mg base CX "is_whole" 1 ["thing"] [] (spP K 1 R_is_whole))
    (F : FunD K "check_key" "check_key" (defArgs s_check_key) (defBody s_check_key) (defScope s_check_key) [] [] f fd) (hm : mg "check_key" = some (.ref f)) :
    Has P w K mg base CX "check_key" 2 ["key"] [] (spP K 1 R_check_key) := by
  refine has_mk F hm sc_check_key (spP_len rfl) (fun _ _ _ _ _ _ us hl => match us, hl with | [_], _ => rfl) fun cdv A outer s H vs Q E hr h => ?_
  obtain ⟨B, ds, z, x, hl, hd, ⟨k, rfl, rfl⟩, q⟩ := h
  cases hd with
  | cons h1 h0 =>
    cases h0
    refine ⟨_, (pss_one (ps_if (pt_not (pt_val (pe_has G_is_whole (hr.mono (by decide)) (by rfl) (pa_cons (pv 0) pa_nil) (nx _)))) (pss_one ps_never) pss_nil)), ?_⟩
    exact sd_no x (et_not (t_val (u_is_whole (d_var rfl h1)))) fun H1 e1 => q _ B H1 (.ex x e1) .non
theorem H_is_pair {f : Addr} {fd : FuncData} (bl : Bl mg) (nx : NoX CX) (G_is_whole : Has P w K mg base CX "is_whole" 1 ["thing"] [] (spP K 1 R_is_whole)) (G_is_row : Has P w K mg base CX "is_row" 1 ["thing"] [] (spP K 1 R_is_row))
    (F : FunD K "_is_pair" "_is_pair" (defArgs s_is_pair) (defBody s_is_pair) (defScope s_is_pair) [] [] f fd) (hm : mg "_is_pair" = some (.ref f)) :
    Has P w K mg base CX "_is_pair" 2 ["thing"] [] (spP K 1 R_is_pair) := by
  refine has_mk F hm sc_is_pair (spP_len rfl) (fun _ _ _ _ _ _ us hl => match us, hl with | [_], _ => rfl) fun cdv A outer s H vs Q E hr h => ?_
  obtain ⟨B, ds, z, x, hl, hd, ⟨d, rfl, rfl⟩, q⟩ := h
  cases hd with
  | @cons v _ _ _ h1 h0 =>
    cases h0
    refine ⟨_, (pss_cons (ps_if (PW.pt (pw_or (pt_not (pt_val (pe_has G_is_row (hr.mono (by decide)) (by rfl) (pa_cons (pv 0) pa_nil) (nx _)))) (pw_or1 (pt_cmpR op_ne (pe_callB call_len_seq (by rfl) bl.len bb_len (pa_cons (pv 0) pa_nil)) pe_int (nomark _))))) (pss_one (ps_ret pe_bl)) pss_nil) (pss_cons (ps_asg (pv 0) (pg_row rfl (pgs_cons (pg_name (i := 1) sc_is_pair.nd rfl (by first | exact .inl rfl | exact .inr rfl)) (pgs_cons (pg_name (i := 2) sc_is_pair.nd rfl (by first | exact .inl rfl | exact .inr rfl)) pgs_nil)))) (pss_one (ps_ret (pe_and (pe_has G_is_whole (hr.mono (by decide)) (by rfl) (pa_cons (pv 1) pa_nil) (nx _)) (pe_and (pe_has G_is_whole (hr.mono (by decide)) (by rfl) (pa_cons (pv 2) pa_nil) (nx _)) (pe_one (pe_cmpR op_ge (pv 2) pe_int (nomark _))))))))), ?_⟩
    cases hw : rowD d with
    | false =>
      refine qd_when (b := true) x (et_is (et_or (a := true) (b := true) (et_is (et_not (t_val (u_is_row (d_var rfl h1)))) (by rw [hw]; rfl)) fun z => Bool.noConfusion z) rfl) (fun _ H1 e1 => ?_) fun z => Bool.noConfusion z
      refine sd_ret (K := K) (x.trans e1) d_bl fun v G H2 g hv => ?_
      rw [pairKey_none hw] at q
      exact q v G H2 ((Gr.ex x e1).trans g) hv
    | true =>
      obtain ⟨b, es, rfl⟩ := row_shape hw
      have c1 : EvT (tNot (tB (tCall (spP K 1 R_is_row) [] E0 (tCons (tVar 0) tNil)))) [some v, none, none] B false := et_is (et_not (t_val (u_is_row (d_var rfl h1)))) (by rw [rowD_rows]; rfl)
      have c2 := t_test (d_op (d_cb (da_cons (d_var (K := K) (σ := [some v, none, none]) (i := 0) rfl h1) da_nil) fun _ _ => rcd_len) (d_int (i := 2)) fun _ _ => rd_ne rfl)
      by_cases hl2 : es.length = 2
      · refine qd_no x (et_is (et_or c1 fun _ => c2) (by rw [hl2]; rfl)) fun H1 e1 => ?_
        match es, hl2 with
        | [a, c], _ =>
          refine qd_pair (x.trans e1) (d_var rfl h1) fun y w' G H2 g hy hw' => ?_
          have g' := (Gr.ex x e1).trans g
          refine sd_ret g.g2 (d_and (a := wholeD a) (b := wholeD c && geOne c) (u_is_whole (d_var rfl hy)) fun _ => d_and (u_is_whole (d_var rfl hw')) fun hc => ?_) fun v G2 H3 g2 hv => ?_
          · cases c <;> (first | (exfalso; exact Bool.noConfusion hc) | skip)
            exact d_op (d_var rfl hw') d_int fun _ _ => rd_cmp
          · rw [pairKey_two] at q
            exact q v G2 H3 (g'.trans g2) hv
      · refine qd_when (b := true) x (et_is (et_or c1 fun _ => c2) (by rw [show eqS (.int es.length) (.int 2) = false from decide_eq_false (by omega)]; rfl)) (fun _ H1 e1 => ?_) fun z => Bool.noConfusion z
        refine sd_ret (K := K) (x.trans e1) d_bl fun v G H2 g hv => ?_
        rw [pairKey_len hl2] at q
        exact q v G H2 ((Gr.ex x e1).trans g) hv
theorem H_is_towers {f : Addr} {fd : FuncData} (nx : NoX CX) (G_wrong_tower : Has P w K mg base CX "wrong_tower" 3 ["thing"] [] (spP K 1 R_wrong_tower))
    (F : FunD K "is_towers" "is_towers" (defArgs s_is_towers) (defBody s_is_towers) (defScope s_is_towers) [] [] f fd) (hm : mg "is_towers" = some (.ref f)) :
    Has P w K mg base CX "is_towers" 4 ["thing"] [] (spP K 1 R_is_towers) := by
  refine has_mk F hm sc_is_towers (spP_len rfl) (fun _ _ _ _ _ _ us hl => match us, hl with | [_], _ => rfl) fun cdv A outer s H vs Q E hr h => ?_
  obtain ⟨B, ds, z, x, hl, hd, ⟨d, rfl, rfl⟩, q⟩ := h
  cases hd with
  | cons h1 h0 =>
    cases h0
    refine ⟨_, (pss_one (ps_ret (pe_cmpR op_isN (pe_has G_wrong_tower (hr.mono (by decide)) (by rfl) (pa_cons (pv 0) pa_nil) (nx _)) pe_non (nomark _)))), ?_⟩
    exact sd_ret x (d_op (u_wrong_tower (d_var rfl h1)) d_non fun _ _ => rd_isN) q
theorem H_check_towers {f : Addr} {fd : FuncData} (nx : NoX CX) (G_wrong_tower : Has P w K mg base CX "wrong_tower" 3 ["thing"] [] (spP K 1 R_wrong_tower))
    (F : FunD K "check_towers" "check_towers" (defArgs s_check_towers) (defBody s_check_towers) (defScope s_check_towers) [] [] f fd) (hm : mg "check_towers" = some (.ref f)) :
    Has P w K mg base CX "check_towers" 4 ["towers"] [] (spP K 1 R_check_towers) := by
  refine has_mk F hm sc_check_towers (spP_len rfl) (fun _ _ _ _ _ _ us hl => match us, hl with | [_], _ => rfl) fun cdv A outer s H vs Q E hr h => ?_
  obtain ⟨B, ds, z, x, hl, hd, ⟨d, rfl, hw, rfl⟩, q⟩ := h
  cases hd with
  | cons h1 h0 =>
    cases h0
    refine ⟨_, (pss_cons (ps_set (i := 1) sc_check_towers.nd rfl (by first | exact .inl rfl | exact .inr rfl) (pe_has G_wrong_tower (hr.mono (by decide)) (by rfl) (pa_cons (pv 0) pa_nil) (nx _))) (pss_one (ps_if (pt_cmpR op_notN (pv 1) pe_non (nomark _)) (pss_one ps_never) pss_nil))), ?_⟩
    refine qd_asg x (d_is (u_wrong_tower (d_var rfl h1)) hw) fun v G H1 g hv => ?_
    exact sd_no g.g2 (t_test (d_op (d_var rfl hv) d_non fun _ _ => rd_notN)) fun H2 e2 => q _ G H2 (g.trans (.ex g.g2 e2)) .non

theorem H_wrong_tower {f : Addr} {fd : FuncData} (bl : Bl mg) (nx : NoX CX) (G_is_row : Has P w K mg base CX "is_row" 1 ["thing"] [] (spP K 1 R_is_row)) (G_is_pair : Has P w K mg base CX "_is_pair" 2 ["thing"] [] (spP K 1 R_is_pair))
    (F : FunD K "wrong_tower" "wrong_tower" (defArgs s_wrong_tower) (defBody s_wrong_tower) (defScope s_wrong_tower) [] [] f fd) (hm : mg "wrong_tower" = some (.ref f)) :
    Has P w K mg base CX "wrong_tower" 3 ["thing"] [] (spP K 1 R_wrong_tower) := by
  refine has_mk F hm sc_wrong_tower (spP_len rfl) (fun _ _ _ _ _ _ us hl => match us, hl with | [_], _ => rfl) fun cdv A outer s H vs Q E hr h => ?_
  obtain ⟨B, ds0, z, x, hl, hd, ⟨d, rfl, rfl⟩, q⟩ := h
  cases hd with
  | @cons v _ _ _ h1 h0 =>
    cases h0
    refine ⟨_, (pss_cons (ps_if (pt_not (pt_val (pe_has G_is_row (hr.mono (by decide)) (by rfl) (pa_cons (pv 0) pa_nil) (nx _)))) (pss_one (ps_ret (pe_un un_neg pe_int))) pss_nil) (pss_cons (ps_for PassesOwn.never rfl (pi_enumR (by rfl) bl.enumerate (pa_cons (pv 0) pa_nil)) (pg_row rfl (pgs_cons (pg_name (i := 1) sc_wrong_tower.nd rfl (by first | exact .inl rfl | exact .inr rfl)) (pgs_cons (pg_name (i := 2) sc_wrong_tower.nd rfl (by first | exact .inl rfl | exact .inr rfl)) pgs_nil))) (pss_cons (ps_if (pt_not (pt_val (pe_has G_is_pair (hr.mono (by decide)) (by rfl) (pa_cons (pv 2) pa_nil) (nx _)))) (pss_one (ps_ret (pv 1))) pss_nil) (pss_one (ps_if (PW.pt (pw_and (pt_cmpR op_gt (pv 1) pe_int (nomark _)) (pw_and1 (pt_cmpR op_le (pe_ix ix_row (pv 2) pe_int (fun _ _ => rfl)) (pe_ix ix_row (pe_ix ix_row (pv 0) (pe_op op_sub (pv 1) pe_int) (fun _ _ => rfl)) pe_int (fun _ _ => rfl)) (nomark _))))) (pss_one (ps_ret (pv 1))) pss_nil)))) (pss_one (ps_ret pe_non)))), ?_⟩
    have c1 := et_not (t_val (u_is_row (E := E0) (d_var (K := K) (σ := [some v, none, none]) (i := 0) rfl h1)))
    cases hw : rowD d with
    | false =>
      rw [hw] at c1
      refine qd_when x c1 (fun _ H1 e1 => ?_) fun z => Bool.noConfusion z
      refine sd_ret (K := K) (x.trans e1) (d_un d_int fun _ _ => rud_neg) fun v G H2 g hv => ?_
      unfold wrongD at q
      rw [items_none hw] at q
      exact q v G H2 ((Gr.ex x e1).trans g) hv
    | true =>
      rw [hw] at c1
      obtain ⟨b, ds, rfl⟩ := row_shape hw
      rw [wrongD_rows] at q
      refine qd_no x c1 fun H1 e1 => ?_
      refine qd_forE (x.trans e1) h1 rfl (fun i σ' H' => (∃ a c, σ' = [some v, a, c]) ∧ Ex H H' ∧ ∃ p, wrongAt none 0 ds = wrongAt p i (ds.drop i) ∧ (i = 0 → p = none) ∧ ∀ j, i = j + 1 → ∃ b' k h, ds[j]? = some (rows b' [.int k, .int h]) ∧ p = some k)
        ⟨⟨none, none, rfl⟩, e1, none, rfl, fun _ => rfl, fun j z => by omega⟩ (fun i σ' H' _ p => x.trans p.2.1) (fun i d y σ' H' H2 hi hy p e2 => ?_) fun σ' H' p => ?_
      · obtain ⟨⟨a, c, rfl⟩, e3, p, hp, hp0, hpj⟩ := p
        have x2 := x.trans (e3.trans e2)
        have hdr : ds.drop i = d :: ds.drop (i + 1) := by
          obtain ⟨h2, h3⟩ := List.getElem?_eq_some_iff.mp hi
          rw [List.drop_eq_getElem_cons h2, h3]
        have ei : (0 : Int) + (i : Int) = (i : Int) := Int.zero_add _
        have di : EvD K (tVar 1) [some v, some (.int (0 + (i : Int))), some y] B (.int i) := d_is (d_var rfl (.int _)) (by rw [ei])
        rw [hdr] at hp
        cases hk : pairKey d with
        | none =>
          refine qd_when (b := true) x2 (et_is (et_not (t_val (u_is_pair (d_var rfl hy)))) (by rw [hk]; rfl)) (fun _ H3 e4 => ?_) fun z => Bool.noConfusion z
          refine sd_ret (x2.trans e4) di fun v G H4 g hv => ?_
          have e5 : wrongAt p i (d :: ds.drop (i + 1)) = some i := by
            unfold wrongAt
            rw [hk]
          rw [hp, e5] at q
          exact q v G H4 ((Gr.ex x ((e3.trans e2).trans e4)).trans g) hv
        | some k =>
          refine qd_no x2 (et_is (et_not (t_val (u_is_pair (d_var rfl hy)))) (by rw [hk]; rfl)) fun H3 e4 => ?_
          obtain ⟨b2, h2, rfl, hh2⟩ := pairKey_some hk
          have e5 : wrongAt p i (rows b2 [.int k, .int h2] :: ds.drop (i + 1)) = if nbh p k = true then some i else wrongAt (some k) (i + 1) (ds.drop (i + 1)) := by
            rw [wrongAt, hk]
          rw [e5] at hp
          have t1 := t_test (d_op di (d_int (i := 0)) fun _ _ => rd_cmp (g := fun i j => decide (j < i)))
          have key : EvT (tAnd (tTest (tOp (rI0 fun i j => .bl (decide (j < i))) (tVar 1) (tC (.int 0)))) (tTest (tOp (rI0 fun i j => .bl (decide (i ≤ j))) (tOp (rIxR K) (tVar 2) (tC (.int 0))) (tOp (rIxR K) (tOp (rIxR K) (tVar 0) (tOp (rI0 fun i j => .int (i - j)) (tVar 1) (tC (.int 1)))) (tC (.int 0))))))
              [some v, some (.int (0 + (i : Int))), some y] B (nbh p k) := by
            cases i with
            | zero =>
              rw [hp0 rfl]
              exact et_is (et_and (b := true) t1 fun z => absurd z (by decide)) rfl
            | succ j =>
              obtain ⟨b3, k3, h3, hj, rfl⟩ := hpj j rfl
              refine et_is (et_and t1 fun _ => t_test (d_op (d_op (d_var rfl hy) d_int fun _ _ => rd_ix rfl) (d_op (d_op (d_var rfl h1) (d_op di d_int fun _ _ => rd_int) fun _ _ => rd_ix (e := rows b3 [.int k3, .int h3]) ?_) d_int fun _ _ => rd_ix rfl) fun _ _ => rd_cmp)) ?_
              · rw [show ((j + 1 : Nat) : Int) - 1 = (j : Int) by omega]
                exact atI_nat hj
              · show (decide (0 < ((j + 1 : Nat) : Int)) && _) = _
                rw [decide_eq_true (by omega)]
                rfl
          cases hc : nbh p k with
          | true =>
            rw [hc] at key
            rw [hc, if_pos rfl] at hp
            refine sd_when (x2.trans e4) key (fun _ H5 e6 => ?_) fun z => Bool.noConfusion z
            refine sd_ret ((x2.trans e4).trans e6) di fun v G H4 g hv => ?_
            rw [hp] at q
            exact q v G H4 ((Gr.ex x (((e3.trans e2).trans e4).trans e6)).trans g) hv
          | false =>
            rw [hc] at key
            rw [hc, if_neg Bool.false_ne_true] at hp
            refine sd_no (x2.trans e4) key fun H5 e6 => ⟨⟨_, _, rfl⟩, ((e3.trans e2).trans e4).trans e6, some k, hp, fun z => by omega, fun j z => ?_⟩
            have ej : i = j := by omega
            subst ej
            exact ⟨b2, k, h2, hi, rfl⟩
      · obtain ⟨⟨a, c, rfl⟩, e3, p, hp, _, _⟩ := p
        refine sd_ret (K := K) (x.trans e3) d_non fun v G H2 g hv => ?_
        rw [List.drop_length] at hp
        rw [hp] at q
        exact q v G H2 ((Gr.ex x e3).trans g) hv
end
end Tk
end

section
set_option Elab.async false
set_option linter.all false
set_option maxRecDepth 100000
set_option maxHeartbeats 1000000
/-! k01, the program's towers. -/
namespace Tk
open PySem PySem.Spec PyProof.Rows L2 Evl Tb
abbrev s_check_number : Stmt := topS 8
abbrev n_check_number : List Str := ["value", "least", "greatest"]
theorem sc_check_number : FnScope n_check_number ["value", "least", "greatest"] (defScope s_check_number) := ⟨rfl, rfl, rfl, by decide +kernel, rfl, by decide +kernel, by decide +kernel⟩

abbrev s_heights : Stmt := topS 13
abbrev n_heights : List Str := ["towers", "key", "height"]
theorem sc_heights : FnScope n_heights ["towers"] (defScope s_heights) := ⟨rfl, rfl, rfl, by decide +kernel, rfl, by decide +kernel, by decide +kernel⟩

abbrev s_tallest : Stmt := topS 20
abbrev n_tallest : List Str := ["towers", "key", "height"]
theorem sc_tallest : FnScope n_tallest ["towers"] (defScope s_tallest) := ⟨rfl, rfl, rfl, by decide +kernel, rfl, by decide +kernel, by decide +kernel⟩

abbrev s_top : Stmt := topS 12
abbrev n_top : List Str := ["towers"]
theorem sc_top : FnScope n_top ["towers"] (defScope s_top) := ⟨rfl, rfl, rfl, by decide +kernel, rfl, by decide +kernel, by decide +kernel⟩

abbrev s_height_of : Stmt := topS 14
abbrev n_height_of : List Str := ["towers", "key", "other", "height"]
theorem sc_height_of : FnScope n_height_of ["towers", "key"] (defScope s_height_of) := ⟨rfl, rfl, rfl, by decide +kernel, rfl, by decide +kernel, by decide +kernel⟩

abbrev s_lane : Stmt := topS 15
abbrev n_lane : List Str := ["towers", "level", "key", "height"]
theorem sc_lane : FnScope n_lane ["towers", "level"] (defScope s_lane) := ⟨rfl, rfl, rfl, by decide +kernel, rfl, by decide +kernel, by decide +kernel⟩

abbrev s_next_key : Stmt := topS 16
abbrev n_next_key : List Str := ["towers", "key", "level", "other", "height"]
theorem sc_next_key : FnScope n_next_key ["towers", "key", "level"] (defScope s_next_key) := ⟨rfl, rfl, rfl, by decide +kernel, rfl, by decide +kernel, by decide +kernel⟩

/-! ### what they tell -/
/-- keys that rise, heights from 1 -/
def WfF : Option Int → Tw → Prop
  | _, [] => True
  | p, (k, h) :: r => 1 ≤ h ∧ nbh p k = false ∧ WfF (some k) r
theorem pairKey_pr {c : Bool} {k h : Int} (hh : 1 ≤ h) : pairKey (prD c (k, h)) = some k := by
  unfold pairKey prD
  rw [itemsD_rows]
  show (if 1 ≤ h then some k else none) = some k
  rw [if_pos hh]
theorem wrongAt_wf {c : Bool} : ∀ {ts : Tw} {p : Option Int} {i : Nat}, WfF p ts → wrongAt p i (ts.map (prD c)) = none
  | [], _, _, _ => rfl
  | (k, h) :: r, p, i, hw => by
    obtain ⟨h1, h2, h3⟩ := hw
    rw [List.map_cons, wrongAt, pairKey_pr h1]
    show (if nbh p k = true then some i else wrongAt (some k) (i + 1) (r.map (prD c))) = none
    rw [h2, if_neg Bool.false_ne_true]
    exact wrongAt_wf h3
theorem wrongD_wf {b c : Bool} {ts : Tw} (h : WfF none ts) : wrongD (twD b c ts) = .none := by
  unfold twD
  rw [wrongD_rows, wrongAt_wf h]
def hgtOf : Tw → Int → Int
  | [], _ => 0
  | p :: r, x => if p.1 = x then p.2 else hgtOf r x
def laneF (l : Int) (p : Int × Int) : Option PyData := if l ≤ p.2 then some (.int p.1) else none
def optD : Option Int → PyData
  | none => .none
  | some k => .int k
def behindK (ko : Option Int) (k : Int) : Bool := match ko with
  | none => true
  | some q => decide (q < k)
def nxt : Tw → Option Int → Int → Option Int
  | [], _, _ => none
  | p :: r, ko, l => if (decide (l ≤ p.2) && behindK ko p.1) = true then some p.1 else nxt r ko l
def R_check_number (ds : List PyData) (z : PyData) : Prop := ∃ v l, ds = [.int v, .int l, .none] ∧ l ≤ v ∧ z = .none
def R_heights (ds : List PyData) (z : PyData) : Prop := ∃ b c ts, ds = [twD b c ts] ∧ WfF none ts ∧ ts.length ≤ 1000 ∧ z = .tuple ((ts.map (·.2)).map .int)
def R_top (ds : List PyData) (z : PyData) : Prop := ∃ b c ts, ds = [twD b c ts] ∧ WfF none ts ∧ ts.length ≤ 1000 ∧ z = .int (maxOf 0 (ts.map (·.2)))
def R_height_of (ds : List PyData) (z : PyData) : Prop := ∃ b c ts k, ds = [twD b c ts, .int k] ∧ WfF none ts ∧ z = .int (hgtOf ts k)
def R_lane (ds : List PyData) (es : List PyData) : Prop := ∃ b c ts l, ds = [twD b c ts, .int l] ∧ WfF none ts ∧ ts.length ≤ 1000 ∧ 1 ≤ l ∧ es = ts.filterMap (laneF l)
def R_next_key (ds : List PyData) (z : PyData) : Prop := ∃ b c ts ko l, ds = [twD b c ts, optD ko, .int l] ∧ WfF none ts ∧ 1 ≤ l ∧ z = optD (nxt ts ko l)
section
variable {K : PySem.W.Frag} {σ : L2.St} {B : Hp} {te tf tg : TE} {d : PyData} {E : XK} {b c : Bool} {ts : Tw}
theorem u_check_number {v l : Int} (h : EvD K te σ B (.int v)) (h2 : EvD K tf σ B (.int l)) (hl : l ≤ v) : EvD K (tCall (spP K 3 R_check_number) [.non] E (tCons te (tCons tf tNil))) σ B .none :=
  d_call (da_cons h (da_cons h2 da_nil)) (sp_PD (dds := [.none]) (fun _ => .one .non) rfl ⟨v, l, rfl, hl, rfl⟩)
theorem u_heights (h : EvD K te σ B (twD b c ts)) (hw : WfF none ts) (hl : ts.length ≤ 1000) : EvD K (tCall (spP K 1 R_heights) [] E (tCons te tNil)) σ B (.tuple ((ts.map (·.2)).map .int)) := d_call (da_cons h da_nil) (sp_P rfl ⟨b, c, ts, rfl, hw, hl, rfl⟩)
theorem u_top (h : EvD K te σ B (twD b c ts)) (hw : WfF none ts) (hl : ts.length ≤ 1000) : EvD K (tCall (spP K 1 R_top) [] E (tCons te tNil)) σ B (.int (maxOf 0 (ts.map (·.2)))) := d_call (da_cons h da_nil) (sp_P rfl ⟨b, c, ts, rfl, hw, hl, rfl⟩)
theorem u_height_of {k : Int} (h : EvD K te σ B (twD b c ts)) (h2 : EvD K tf σ B (.int k)) (hw : WfF none ts) : EvD K (tCall (spP K 2 R_height_of) [] E (tCons te (tCons tf tNil))) σ B (.int (hgtOf ts k)) := d_call (da_cons h (da_cons h2 da_nil)) (sp_P rfl ⟨b, c, ts, k, rfl, hw, rfl⟩)
theorem u_lane {l : Int} (h : EvD K te σ B (twD b c ts)) (h2 : EvD K tf σ B (.int l)) (hw : WfF none ts) (hl : ts.length ≤ 1000) (h1 : 1 ≤ l) : EvDL K (tCall (spPL K 2 R_lane) [] E (tCons te (tCons tf tNil))) σ B (ts.filterMap (laneF l)) := dl_call (da_cons h (da_cons h2 da_nil)) (sp_PL rfl ⟨b, c, ts, l, rfl, hw, hl, h1, rfl⟩)
theorem u_next_key {ko : Option Int} {l : Int} (h : EvD K te σ B (twD b c ts)) (h2 : EvD K tf σ B (optD ko)) (h3 : EvD K tg σ B (.int l)) (hw : WfF none ts) (h1 : 1 ≤ l) : EvD K (tCall (spP K 3 R_next_key) [] E (tCons te (tCons tf (tCons tg tNil)))) σ B (optD (nxt ts ko l)) :=
  d_call (da_cons h (da_cons h2 (da_cons h3 da_nil))) (sp_P rfl ⟨b, c, ts, ko, l, rfl, hw, h1, rfl⟩)
end
section
variable {P : Program} {w : World} {K : PySem.W.Frag} {mg : Str → Option Value} {base : Heap} {CX : CXT} {f : Addr} {fd : FuncData}
theorem H_check_number (nx : NoX CX) (G_is_whole : Has P w K mg base CX "is_whole" 1 ["thing"] [] (spP K 1 R_is_whole))
    (F : FunD K "check_number" "check_number" (defArgs s_check_number) (defBody s_check_number) (defScope s_check_number) [.non] [] f fd) (hm : mg "check_number" = some (.ref f)) :
    Has P w K mg base CX "check_number" 2 ["value", "least", "greatest"] [.non] (spP K 3 R_check_number) := by
  refine has_mkD (n := 2) F hm sc_check_number (spP_len rfl) (by simp) rfl (fun _ _ _ _ _ _ _ us its hl hi => match us, its, hl, hi with | [_, _], [_], _, _ => ⟨_, rfl, rfl⟩) fun cdv A outer s H vs Q E hr h => ?_
  obtain ⟨B, ds, z, x, hl, hd, ⟨v, l, rfl, hle, rfl⟩, q⟩ := h
  match vs, hd with
  | [_, _, _], .cons h1 (.cons h2 (.cons h3 .nil)) =>
    refine ⟨_, (pss_cons (ps_if (PW.pt (pw_or (pt_not (pt_val (pe_has G_is_whole (hr.mono (by decide)) (by rfl) (pa_cons (pv 0) pa_nil) (nx _)))) (pw_or1 (pt_cmpR op_lt (pv 0) (pv 1) (nomark _))))) (pss_one ps_never) pss_nil) (pss_one (ps_if (PW.pt (pw_and (pt_cmpR op_notN (pv 2) pe_non (nomark _)) (pw_and1 (pt_cmpR op_gt (pv 0) (pv 2) (nomark _))))) (pss_one ps_never) pss_nil))), ?_⟩
    refine qd_no x (et_is (et_or (et_not (t_val (u_is_whole (d_var rfl h1)))) fun _ => t_test (d_op (d_var rfl h1) (d_var rfl h2) fun _ _ => rd_cmp)) (by show (false || decide (v < l)) = false; rw [decide_eq_false (by omega)]; rfl)) fun H1 e1 => ?_
    exact sd_no (x.trans e1) (et_is (et_and (b := true) (t_test (d_op (d_var rfl h3) d_non fun _ _ => rd_notN)) fun z => Bool.noConfusion z) rfl) fun H2 e2 => q _ B H2 (.ex x (e1.trans e2)) .non
theorem H_heights (bl : Bl mg) (nx : NoX CX) (G_check_towers : Has P w K mg base CX "check_towers" 4 ["towers"] [] (spP K 1 R_check_towers))
    (F : FunD K "heights" "heights" (defArgs s_heights) (defBody s_heights) (defScope s_heights) [] [] f fd) (hm : mg "heights" = some (.ref f)) :
    Has P w K mg base CX "heights" 5 ["towers"] [] (spP K 1 R_heights) := by
  refine has_mk F hm sc_heights (spP_len rfl) (fun _ _ _ _ _ _ us hl => match us, hl with | [_], _ => rfl) fun cdv A outer s H vs Q E hr h => ?_
  obtain ⟨B, ds, z, x, hl, hd, ⟨b, c, ts, rfl, hw, hn, rfl⟩, q⟩ := h
  match vs, hd with
  | [_], .cons h1 .nil =>
    refine ⟨_, (pss_cons (ps_expr (pe_has G_check_towers (hr.mono (by decide)) (by rfl) (pa_cons (pv 0) pa_nil) (nx _))) (pss_one (ps_ret (pe_callTy call_tuple_of (by rfl) bl.tuple bb_tuple (pa_cons (pe_lc (own := [("key", 1), ("height", 2)]) (g := (gRow K 2 (gCons (gName 1) (gCons (gName 2) gNil)))) (by rfl) sc_heights.nd (pi_row (pv 0)) (blkOk_by (own := [("key", 1), ("height", 2)]) (N := n_heights) (sc := defScope s_heights) (by decide +kernel)) (fun _ _ _ _ _ => (pg_row rfl (pgs_cons (pg_name (i := 1) sc_heights.nd rfl (Or.inl rfl) (Or.inr rfl)) (pgs_cons (pg_name (i := 2) sc_heights.nd rfl (Or.inl rfl) (Or.inr rfl)) pgs_nil rfl) rfl) rfl rfl)) (fun _ _ _ _ _ => pts_nil) (fun _ _ _ _ _ => (pv 2))) pa_nil))))), ?_⟩
    refine qd_drop x (u_check_towers (d_var rfl h1) (wrongD_wf hw)) fun H1 e1 => ?_
    have e2 : ts.filterMap (fun p => some (PyData.int p.2)) = (ts.map (·.2)).map .int := by
      rw [List.map_map, ← List.filterMap_eq_map]
      rfl
    refine sd_ret (x.trans e1) (d_cb (da_cons (d_is (dl_d (lc_tw (fun p => some (.int p.2)) (d_var rfl h1) (by omega) (fun _ _ => rfl) (fun p _ G _ => et_yes) fun p _ e he G _ => ?_)) (show PyData.list _ = rows true ((ts.map (·.2)).map .int) by rw [e2]; rfl)) da_nil) fun _ _ => rcd_tuple) fun v G H2 g hv => q v G H2 ((Gr.ex x e1).trans g) hv
    cases he
    exact d_var rfl (.int _)
theorem H_tallest (bl : Bl mg) (F : FunD K "tallest" "tallest" (defArgs s_tallest) (defBody s_tallest) (defScope s_tallest) [] [] f fd) (hm : mg "tallest" = some (.ref f)) :
    Has P w K mg base CX "tallest" 1 ["towers"] [] (spP K 1 R_top) := by
  refine has_mk F hm sc_tallest (spP_len rfl) (fun _ _ _ _ _ _ us hl => match us, hl with | [_], _ => rfl) fun cdv A outer s H vs Q E hr h => ?_
  obtain ⟨B, ds, z, x, hl, hd, ⟨b, c, ts, rfl, hw, hn, rfl⟩, q⟩ := h
  match vs, hd with
  | [_], .cons h1 .nil =>
    refine ⟨_, (pss_one (ps_ret (pe_callBK (cr_maxDfL rfl hr.units) (by rfl) bl.max bb_max (pa_cons (pe_lc (own := [("key", 1), ("height", 2)]) (g := (gRow K 2 (gCons (gName 1) (gCons (gName 2) gNil)))) (by rfl) sc_tallest.nd (pi_row (pv 0)) (blkOk_by (own := [("key", 1), ("height", 2)]) (N := n_tallest) (sc := defScope s_tallest) (by decide +kernel)) (fun _ _ _ _ _ => (pg_row rfl (pgs_cons (pg_name (i := 1) sc_tallest.nd rfl (Or.inl rfl) (Or.inr rfl)) (pgs_cons (pg_name (i := 2) sc_tallest.nd rfl (Or.inl rfl) (Or.inr rfl)) pgs_nil rfl) rfl) rfl rfl)) (fun _ _ _ _ _ => pts_nil) (fun _ _ _ _ _ => (pv 2))) pa_nil) (pk_cons pe_int pk_nil)))), ?_⟩
    have e2 : ts.filterMap (fun p => some (PyData.int p.2)) = (ts.map (·.2)).map .int := by
      rw [List.map_map, ← List.filterMap_eq_map]
      rfl
    refine sd_ret x (d_maxDfL (d_is (dl_d (lc_tw (fun p => some (.int p.2)) (d_var rfl h1) (by omega) (fun _ _ => rfl) (fun p _ G _ => et_yes) fun p _ e he G _ => ?_)) (by rw [e2]))) q
    cases he
    exact d_var rfl (.int _)
theorem H_top (bl : Bl mg) (nx : NoX CX) (G_check_towers : Has P w K mg base CX "check_towers" 4 ["towers"] [] (spP K 1 R_check_towers)) (G_tallest : Has P w K mg base CX "tallest" 1 ["towers"] [] (spP K 1 R_top))
    (F : FunD K "top" "top" (defArgs s_top) (defBody s_top) (defScope s_top) [] [] f fd) (hm : mg "top" = some (.ref f)) :
    Has P w K mg base CX "top" 6 ["towers"] [] (spP K 1 R_top) := by
  refine has_mk F hm sc_top (spP_len rfl) (fun _ _ _ _ _ _ us hl => match us, hl with | [_], _ => rfl) fun cdv A outer s H vs Q E hr h => ?_
  obtain ⟨B, ds, z, x, hl, hd, ⟨b, c, ts, rfl, hw, hn, rfl⟩, q⟩ := h
  match vs, hd with
  | [_], .cons h1 .nil =>
    refine ⟨_, (pss_cons (ps_expr (pe_has G_check_towers (hr.mono (by decide)) (by rfl) (pa_cons (pv 0) pa_nil) (nx _))) (pss_one (ps_ret (pe_has G_tallest (hr.mono (by decide)) (by rfl) (pa_cons (pv 0) pa_nil) (nx _))))), ?_⟩
    refine qd_drop x (u_check_towers (d_var rfl h1) (wrongD_wf hw)) fun H1 e1 => ?_
    exact sd_ret (x.trans e1) (d_call (da_cons (d_var rfl h1) da_nil) (sp_P rfl ⟨b, c, ts, rfl, hw, hn, rfl⟩)) fun v G H2 g hv => q v G H2 ((Gr.ex x e1).trans g) hv
theorem H_height_of (nx : NoX CX) (G_check_towers : Has P w K mg base CX "check_towers" 4 ["towers"] [] (spP K 1 R_check_towers)) (G_check_key : Has P w K mg base CX "check_key" 2 ["key"] [] (spP K 1 R_check_key))
    (F : FunD K "height_of" "height_of" (defArgs s_height_of) (defBody s_height_of) (defScope s_height_of) [] [] f fd) (hm : mg "height_of" = some (.ref f)) :
    Has P w K mg base CX "height_of" 5 ["towers", "key"] [] (spP K 2 R_height_of) := by
  refine has_mk F hm sc_height_of (spP_len rfl) (fun _ _ _ _ _ _ us hl => match us, hl with | [_, _], _ => rfl) fun cdv A outer s H vs Q E hr h => ?_
  obtain ⟨B, ds, z, x, hl, hd, ⟨b, c, ts, k, rfl, hw, rfl⟩, q⟩ := h
  match vs, hd with
  | [v1, v2], .cons h1 (.cons h2 .nil) =>
    refine ⟨_, (pss_cons (ps_expr (pe_has G_check_towers (hr.mono (by decide)) (by rfl) (pa_cons (pv 0) pa_nil) (nx _))) (pss_cons (ps_expr (pe_has G_check_key (hr.mono (by decide)) (by rfl) (pa_cons (pv 1) pa_nil) (nx _))) (pss_cons (ps_for PassesOwn.never rfl (pi_row (pv 0)) (pg_row rfl (pgs_cons (pg_name (i := 2) sc_height_of.nd rfl (by first | exact .inl rfl | exact .inr rfl)) (pgs_cons (pg_name (i := 3) sc_height_of.nd rfl (by first | exact .inl rfl | exact .inr rfl)) pgs_nil))) (pss_one (ps_if (pt_cmpR op_eq (pv 2) (pv 1) (nomark _)) (pss_one (ps_ret (pv 3))) pss_nil))) (pss_one (ps_ret pe_int))))), ?_⟩
    refine qd_drop x (u_check_towers (d_var rfl h1) (wrongD_wf hw)) fun H1 e1 => ?_
    refine qd_drop (x.trans e1) (u_check_key (d_var rfl h2)) fun H2 e2 => ?_
    have e12 := e1.trans e2
    refine qd_forTw (x.trans e12) h1 rfl (fun i σ' H' => (∃ a c, σ' = [some v1, some v2, a, c]) ∧ Ex H H' ∧ hgtOf ts k = hgtOf (ts.drop i) k) ⟨⟨none, none, rfl⟩, e12, rfl⟩ (fun i σ' H' _ p => x.trans p.2.1) (fun i y σ' H' hi p => ?_) fun σ' H' p => ?_
    · obtain ⟨⟨a, c, rfl⟩, e3, p⟩ := p
      obtain ⟨h3, h4⟩ := List.getElem?_eq_some_iff.mp hi
      rw [List.drop_eq_getElem_cons h3, h4] at p
      have key := t_test (d_op (d_var (σ := [some v1, some v2, some (.int y.1), some (.int y.2)]) (i := 2) rfl (.int y.1)) (d_var (i := 1) rfl h2) fun _ _ => rd_eq rfl)
      by_cases hc : y.1 = k
      · have p' : hgtOf ts k = y.2 := by
          rw [p, hgtOf, if_pos hc]
        refine sd_when (b := true) (x.trans e3) (et_is key (decide_eq_true hc)) (fun _ H4 e4 => ?_) fun z => Bool.noConfusion z
        rw [p'] at q
        exact sd_ret (K := K) ((x.trans e3).trans e4) (d_var rfl (.int y.2)) fun v G H5 g hv => q v G H5 ((Gr.ex x (e3.trans e4)).trans g) hv
      · refine sd_no (x.trans e3) (et_is key (decide_eq_false hc)) fun H4 e4 => ⟨⟨_, _, rfl⟩, e3.trans e4, ?_⟩
        rw [p, hgtOf, if_neg hc]
    · obtain ⟨⟨a, c, rfl⟩, e3, p⟩ := p
      rw [List.drop_length] at p
      rw [p] at q
      exact sd_ret (K := K) (x.trans e3) d_int fun v G H5 g hv => q v G H5 ((Gr.ex x e3).trans g) hv
theorem H_lane (nx : NoX CX) (G_check_towers : Has P w K mg base CX "check_towers" 4 ["towers"] [] (spP K 1 R_check_towers)) (G_check_number : Has P w K mg base CX "check_number" 2 ["value", "least", "greatest"] [.non] (spP K 3 R_check_number))
    (F : FunD K "lane" "lane" (defArgs s_lane) (defBody s_lane) (defScope s_lane) [] [] f fd) (hm : mg "lane" = some (.ref f)) :
    Has P w K mg base CX "lane" 5 ["towers", "level"] [] (spPL K 2 R_lane) := by
  refine has_mk F hm sc_lane (spPL_len rfl) (fun _ _ _ _ _ _ us hl => match us, hl with | [_, _], _ => rfl) fun cdv A outer s H vs Q E hr h => ?_
  obtain ⟨B, ds, es, x, hl, hd, ⟨b, c, ts, l, rfl, hw, hn, h1l, rfl⟩, q⟩ := h
  match vs, hd with
  | [v1, v2], .cons h1 (.cons h2 .nil) =>
    refine ⟨_, (pss_cons (ps_expr (pe_has G_check_towers (hr.mono (by decide)) (by rfl) (pa_cons (pv 0) pa_nil) (nx _))) (pss_cons (ps_expr (pe_has G_check_number (hr.mono (by decide)) (by rfl) (pa_cons (pv 1) (pa_cons pe_int pa_nil)) (nx _))) (pss_one (ps_ret (pe_lc (own := [("key", 2), ("height", 3)]) (g := (gRow K 2 (gCons (gName 2) (gCons (gName 3) gNil)))) (by rfl) sc_lane.nd (pi_row (pv 0)) (blkOk_by (own := [("key", 2), ("height", 3)]) (N := n_lane) (sc := defScope s_lane) (by decide +kernel)) (fun _ _ _ _ _ => (pg_row rfl (pgs_cons (pg_name (i := 2) sc_lane.nd rfl (Or.inl rfl) (Or.inr rfl)) (pgs_cons (pg_name (i := 3) sc_lane.nd rfl (Or.inl rfl) (Or.inr rfl)) pgs_nil rfl) rfl) rfl rfl)) (fun _ _ _ _ _ => (pts_one (pt_cmpR op_ge (pv 3) (pv 1) (nomark _)))) (fun _ _ _ _ _ => (pv 2))))))), ?_⟩
    refine qd_drop x (u_check_towers (d_var rfl h1) (wrongD_wf hw)) fun H1 e1 => ?_
    refine qd_drop (x.trans e1) (u_check_number (d_var rfl h2) d_int h1l) fun H2 e2 => ?_
    have e12 := e1.trans e2
    refine sd_retL (x.trans e12) (lc_tw (laneF l) (d_var rfl h1) (by omega) (fun _ _ => rfl) (fun p _ G eG => ?_) fun p _ e he G _ => ?_) fun p xs G H3 g0 h0 g hp ha => q p xs G H3 g0 (fresh_back e12 h0) ((Gr.ex x e12).trans g) hp ha
    · refine et_is (t_test (d_op (d_var rfl (.int p.2)) (d_var rfl (dp_mono eG h2)) fun _ _ => rd_cmp)) ?_
      unfold laneF
      by_cases hc : l ≤ p.2
      · rw [if_pos hc, decide_eq_true hc]
        rfl
      · rw [if_neg hc, decide_eq_false hc]
        rfl
    · unfold laneF at he
      by_cases hc : l ≤ p.2
      · rw [if_pos hc] at he
        cases he
        exact d_var rfl (.int _)
      · rw [if_neg hc] at he
        cases he
theorem H_next_key (nx : NoX CX) (G_check_towers : Has P w K mg base CX "check_towers" 4 ["towers"] [] (spP K 1 R_check_towers)) (G_check_key : Has P w K mg base CX "check_key" 2 ["key"] [] (spP K 1 R_check_key))
    (G_check_number : Has P w K mg base CX "check_number" 2 ["value", "least", "greatest"] [.non] (spP K 3 R_check_number))
    (F : FunD K "next_key" "next_key" (defArgs s_next_key) (defBody s_next_key) (defScope s_next_key) [] [] f fd) (hm : mg "next_key" = some (.ref f)) :
    Has P w K mg base CX "next_key" 5 ["towers", "key", "level"] [] (spP K 3 R_next_key) := by
  refine has_mk F hm sc_next_key (spP_len rfl) (fun _ _ _ _ _ _ us hl => match us, hl with | [_, _, _], _ => rfl) fun cdv A outer s H vs Q E hr h => ?_
  obtain ⟨B, ds, z, x, hl, hd, ⟨b, c, ts, ko, l, rfl, hw, h1l, rfl⟩, q⟩ := h
  match vs, hd with
  | [v1, v2, v3], .cons h1 (.cons h2 (.cons h3 .nil)) =>
    refine ⟨_, (pss_cons (ps_expr (pe_has G_check_towers (hr.mono (by decide)) (by rfl) (pa_cons (pv 0) pa_nil) (nx _))) (pss_cons (ps_if (pt_cmpR op_notN (pv 1) pe_non (nomark _)) (pss_one (ps_expr (pe_has G_check_key (hr.mono (by decide)) (by rfl) (pa_cons (pv 1) pa_nil) (nx _)))) pss_nil) (pss_cons (ps_expr (pe_has G_check_number (hr.mono (by decide)) (by rfl) (pa_cons (pv 2) (pa_cons pe_int pa_nil)) (nx _))) (pss_cons (ps_for PassesOwn.never rfl (pi_row (pv 0)) (pg_row rfl (pgs_cons (pg_name (i := 3) sc_next_key.nd rfl (by first | exact .inl rfl | exact .inr rfl)) (pgs_cons (pg_name (i := 4) sc_next_key.nd rfl (by first | exact .inl rfl | exact .inr rfl)) pgs_nil))) (pss_one (ps_if (PW.pt (pw_and (pt_cmpR op_ge (pv 4) (pv 2) (nomark _)) (pw_and1 (PW.pt (pw_or (pt_cmpR op_isN (pv 1) pe_non (nomark _)) (pw_or1 (pt_cmpR op_gt (pv 3) (pv 1) (nomark _)))))))) (pss_one (ps_ret (pv 3))) pss_nil))) (pss_one (ps_ret pe_non)))))), ?_⟩
    refine qd_drop x (u_check_towers (d_var rfl h1) (wrongD_wf hw)) fun H1 e1 => ?_
    refine qd_ifdrop (K := K) (d := .none) (x.trans e1) (t_test (d_op (d_var rfl h2) d_non fun _ _ => rd_notN)) (fun hc => ?_) fun H2 e2 => ?_
    · cases ko with
      | none => exact Bool.noConfusion hc
      | some k0 => exact u_check_key (d_var rfl h2)
    · have e12 := e1.trans e2
      refine qd_drop (x.trans e12) (u_check_number (d_var rfl h3) d_int h1l) fun H3 e3 => ?_
      have e23 := e12.trans e3
      refine qd_forTw (x.trans e23) h1 rfl (fun i σ' H' => (∃ a c, σ' = [some v1, some v2, some v3, a, c]) ∧ Ex H H' ∧ nxt ts ko l = nxt (ts.drop i) ko l) ⟨⟨none, none, rfl⟩, e23, rfl⟩ (fun i σ' H' _ p => x.trans p.2.1) (fun i y σ' H' hi p => ?_) fun σ' H' p => ?_
      · obtain ⟨⟨a, c, rfl⟩, e3, p⟩ := p
        obtain ⟨h3', h4⟩ := List.getElem?_eq_some_iff.mp hi
        rw [List.drop_eq_getElem_cons h3', h4] at p
        have k1 := t_test (d_op (d_var (σ := [some v1, some v2, some v3, some (.int y.1), some (.int y.2)]) (i := 4) rfl (.int y.2)) (d_var (i := 2) rfl h3) fun _ _ => rd_cmp (g := fun i j => decide (j ≤ i)))
        have k2 : EvT (tOr (tTest (tOp (fun x y H Q => y = .non ∧ Q (.bl (decide (x = .non))) H) (tVar 1) (tC .non))) (tTest (tOp (rI0 fun i j => .bl (decide (j < i))) (tVar 3) (tVar 1)))) [some v1, some v2, some v3, some (.int y.1), some (.int y.2)] B (behindK ko y.1) := by
          cases ko with
          | none => exact et_is (et_or (b := true) (t_test (d_op (d_var rfl h2) d_non fun _ _ => rd_isN)) fun z => Bool.noConfusion z) rfl
          | some k0 => exact et_is (et_or (t_test (d_op (d_var rfl h2) d_non fun _ _ => rd_isN)) fun _ => t_test (d_op (d_var rfl (.int y.1)) (d_var rfl h2) fun _ _ => rd_cmp)) rfl
        have key := et_and k1 fun _ => k2
        cases hc : (decide (l ≤ y.2) && behindK ko y.1) with
        | true =>
          rw [hc] at key
          have p' : nxt ts ko l = some y.1 := by
            rw [p, nxt, if_pos hc]
          refine sd_when (x.trans e3) key (fun _ H4 e4 => ?_) fun z => Bool.noConfusion z
          rw [p'] at q
          exact sd_ret (K := K) ((x.trans e3).trans e4) (d_var rfl (.int y.1)) fun v G H5 g hv => q v G H5 ((Gr.ex x (e3.trans e4)).trans g) hv
        | false =>
          rw [hc] at key
          refine sd_no (x.trans e3) key fun H4 e4 => ⟨⟨_, _, rfl⟩, e3.trans e4, ?_⟩
          rw [p, nxt, if_neg (by rw [hc]; exact Bool.false_ne_true)]
      · obtain ⟨⟨a, c, rfl⟩, e3, p⟩ := p
        rw [List.drop_length] at p
        rw [p] at q
        exact sd_ret (K := K) (x.trans e3) d_non fun v G H5 g hv => q v G H5 ((Gr.ex x e3).trans g) hv
end
end Tk
end

section
set_option Elab.async false
set_option linter.all false
set_option maxRecDepth 100000
set_option maxHeartbeats 1000000
/-! k01, the program's links. -/
namespace Tk
open PySem PySem.Spec PyProof.Rows L2 Evl Tb
abbrev s_links_from : Stmt := topS 22
abbrev n_links_from : List Str := ["key", "following", "level", "other"]
theorem sc_links_from : FnScope n_links_from ["key", "following"] (defScope s_links_from) := ⟨rfl, rfl, rfl, by decide +kernel, rfl, by decide +kernel, by decide +kernel⟩

abbrev s_links : Stmt := topS 17
abbrev n_links : List Str := ["towers", "following", "parts", "key", "height", "part", "link"]
theorem sc_links : FnScope n_links ["towers"] (defScope s_links) := ⟨rfl, rfl, rfl, by decide +kernel, rfl, by decide +kernel, by decide +kernel⟩

theorem gr_mut {B H0 G H' : Hp} {l : Addr} {o : HO} (g : Gr B H0 G H') (g0 : G l = none) (h0 : H0 l = none) : Gr B H0 G (upd H' l o) := ⟨g.hg, Ex.mut g.g2 g0, Ex.mut g.h12 h0, g.sep⟩
theorem gr_out {B H0 G H' : Hp} {l : Addr} {u : HO} (g : Gr B H0 G H') (b0 : B l = none) (h0 : H0 l = some u) : G l = none := g.sep l b0 (by rw [h0]; exact fun z => nomatch z)
def optV : Option Int → V
  | none => .non
  | some k => .int k
theorem dp_opt {K : PySem.W.Frag} {H : Hp} : ∀ o, Dp K H (optV o) (optD o)
  | none => .non
  | some k => .int k
theorem dpa_opt {K : PySem.W.Frag} {H : Hp} : ∀ fl : List (Option Int), DpAll K H (fl.map optV) (fl.map optD)
  | [] => .nil
  | o :: fl => .cons (dp_opt o) (dpa_opt fl)
theorem of_opt {K : PySem.W.Frag} {H : Hp} : ∀ {fl : List (Option Int)} {vs : List V}, DpAll K H vs (fl.map optD) → vs = fl.map optV
  | [], _, .nil => rfl
  | none :: fl, _, .cons h a => by rw [Dp.non_of h, of_opt a]; rfl
  | some k :: fl, _, .cons h a => by rw [Dp.int_of h, of_opt a]; rfl
/-! ### what they tell -/
def lkF (ko : Option Int) (fl : List (Option Int)) : List PyData := mapFrom 1 (fun l d => .tuple [optD ko, .int l, d]) (fl.map optD)
/-- the next keys by lanes, behind a head of n lanes -/
def fol (n : Nat) : Tw → List (Option Int)
  | [] => List.replicate n none
  | p :: r => List.replicate p.2.toNat (some p.1) ++ (fol n r).drop p.2.toNat
def pts (n : Nat) : Tw → List (List PyData)
  | [] => []
  | p :: r => pts n r ++ [lkF (some p.1) ((fol n r).take p.2.toNat)]
def lnkP (n : Nat) (ts : Tw) : List PyData := (pts n ts ++ [lkF none (fol n ts)]).reverse.flatten
def topN (ts : Tw) : Nat := (maxOf 0 (ts.map (·.2))).toNat
theorem fol_len (n : Nat) : ∀ {ts : Tw}, (∀ p ∈ ts, p.2.toNat ≤ n) → (fol n ts).length = n
  | [], _ => List.length_replicate ..
  | p :: r, h => by
    have h1 := h p (List.mem_cons_self ..)
    rw [fol, List.length_append, List.length_replicate, List.length_drop, fol_len n fun q hq => h q (List.mem_cons_of_mem _ hq)]
    omega
theorem lkF_len (ko : Option Int) (fl : List (Option Int)) : (lkF ko fl).length = fl.length := by
  unfold lkF
  rw [mapFrom_length, List.length_map]
theorem pts_len (n : Nat) : ∀ ts : Tw, (pts n ts).length = ts.length
  | [] => rfl
  | p :: r => by rw [pts, List.length_append, pts_len n r]; rfl
theorem pts_flat (n : Nat) : ∀ {ts : Tw}, (∀ p ∈ ts, p.2.toNat ≤ n) → (pts n ts).flatten.length ≤ ts.length * n
  | [], _ => Nat.zero_le _
  | p :: r, h => by
    have ih := pts_flat n (ts := r) fun q hq => h q (List.mem_cons_of_mem _ hq)
    have hp := h p (List.mem_cons_self ..)
    have e : (r.length + 1) * n = r.length * n + n := Nat.succ_mul ..
    rw [pts, List.flatten_append, List.length_append, List.length_cons, e]
    have : ([lkF (some p.1) ((fol n r).take p.2.toNat)].flatten).length ≤ n := by
      rw [List.flatten_cons, List.flatten_nil, List.append_nil, lkF_len, List.length_take]
      omega
    omega
theorem foldl_max_le : ∀ (ns : List Int) (a x : Int), (x = a ∨ x ∈ ns) → x ≤ ns.foldl max a
  | [], a, x, h => by
    rcases h with h | h
    · exact Int.le_of_eq h
    · cases h
  | n :: ns, a, x, h => by
    rw [List.foldl_cons]
    rcases h with h | h
    · subst h
      exact Int.le_trans (by omega) (foldl_max_le ns (max x n) _ (.inl rfl))
    · rcases List.mem_cons.mp h with h | h
      · subst h
        exact Int.le_trans (by omega) (foldl_max_le ns (max a x) _ (.inl rfl))
      · exact foldl_max_le ns _ x (.inr h)
theorem maxOf_le {d : Int} {ns : List Int} {x : Int} (h : x ∈ ns) : x ≤ maxOf d ns := by
  cases ns with
  | nil => cases h
  | cons n ns =>
    rcases List.mem_cons.mp h with h | h
    · exact foldl_max_le ns n x (.inl h)
    · exact foldl_max_le ns n x (.inr h)
theorem foldl_max_lt : ∀ (ns : List Int) (a m : Int), a ≤ m → (∀ x ∈ ns, x ≤ m) → ns.foldl max a ≤ m
  | [], a, m, h, _ => h
  | n :: ns, a, m, h, h2 => by
    rw [List.foldl_cons]
    have := h2 n (List.mem_cons_self ..)
    exact foldl_max_lt ns _ m (by omega) fun x hx => h2 x (List.mem_cons_of_mem _ hx)
theorem maxOf_lt {d m : Int} {ns : List Int} (hd : d ≤ m) (h : ∀ x ∈ ns, x ≤ m) : maxOf d ns ≤ m := by
  cases ns with
  | nil => exact hd
  | cons n ns => exact foldl_max_lt ns n m (h n (List.mem_cons_self ..)) fun x hx => h x (List.mem_cons_of_mem _ hx)
theorem top_le {ts : Tw} : ∀ p ∈ ts, p.2.toNat ≤ topN ts := fun p hp => by
  have := maxOf_le (d := 0) (List.mem_map_of_mem (f := (·.2)) hp)
  unfold topN
  omega
theorem maxOf_nn {ts : Tw} (hw : ∀ p ∈ ts, 1 ≤ p.2) : 0 ≤ maxOf 0 (ts.map (·.2)) := by
  cases ts with
  | nil => exact Int.le_refl 0
  | cons p r =>
    have h1 := hw p (List.mem_cons_self ..)
    have h2 := maxOf_le (d := 0) (ns := ((p :: r).map (·.2))) (x := p.2) (List.mem_cons_self ..)
    omega
theorem wf_pos : ∀ {ts : Tw} {q : Option Int}, WfF q ts → ∀ p ∈ ts, 1 ≤ p.2
  | [], _, _, p, hp => by cases hp
  | (k, h) :: r, _, hw, p, hp => by
    obtain ⟨h1, _, h3⟩ := hw
    rcases List.mem_cons.mp hp with e | hp
    · rw [e]
      exact h1
    · exact wf_pos h3 p hp
def R_links_from (ds : List PyData) (es : List PyData) : Prop := ∃ ko b ds', ds = [optD ko, rows b ds'] ∧ ds'.length ≤ 40000 ∧ es = mapFrom 1 (fun l d => .tuple [optD ko, .int l, d]) ds'
def R_links (ds : List PyData) (es : List PyData) : Prop := ∃ b c ts, ds = [twD b c ts] ∧ WfF none ts ∧ ts.length ≤ 500 ∧ (∀ p ∈ ts, p.2 ≤ 64) ∧ es = lnkP (topN ts) ts
section
variable {K : PySem.W.Frag} {σ : L2.St} {B : Hp} {te : TE} {E : XK} {b c : Bool} {ts : Tw}
theorem u_links (h : EvD K te σ B (twD b c ts)) (hw : WfF none ts) (hl : ts.length ≤ 500) (h64 : ∀ p ∈ ts, p.2 ≤ 64) : EvDL K (tCall (spPL K 1 R_links) [] E (tCons te tNil)) σ B (lnkP (topN ts) ts) := dl_call (da_cons h da_nil) (sp_PL rfl ⟨b, c, ts, rfl, hw, hl, h64, rfl⟩)
end
section
variable {P : Program} {w : World} {K : PySem.W.Frag} {mg : Str → Option Value} {base : Heap} {CX : CXT} {f : Addr} {fd : FuncData}
theorem H_links_from (bl : Bl mg) (F : FunD K "_links_from" "_links_from" (defArgs s_links_from) (defBody s_links_from) (defScope s_links_from) [] [] f fd) (hm : mg "_links_from" = some (.ref f)) :
    Has P w K mg base CX "_links_from" 1 ["key", "following"] [] (spPL K 2 R_links_from) := by
  refine has_mk F hm sc_links_from (spPL_len rfl) (fun _ _ _ _ _ _ us hl => match us, hl with | [_, _], _ => rfl) fun cdv A outer s H vs Q E hr h => ?_
  obtain ⟨B, ds, es, x, hl, hd, ⟨ko, b, ds', rfl, hn, rfl⟩, q⟩ := h
  match vs, hd with
  | [v1, v2], .cons h1 (.cons h2 .nil) =>
    refine ⟨_, (pss_one (ps_ret (pe_lc (own := [("level", 2), ("other", 3)]) (g := (gRow K 2 (gCons (gName 2) (gCons (gName 3) gNil)))) (by rfl) sc_links_from.nd (pi_enumS (by rfl) bl.enumerate (pa_cons (pv 1) pa_nil) (pk_cons pe_int pk_nil)) (blkOk_by (own := [("level", 2), ("other", 3)]) (N := n_links_from) (sc := defScope s_links_from) (by decide +kernel)) (fun _ _ _ _ _ => (pg_row rfl (pgs_cons (pg_name (i := 2) sc_links_from.nd rfl (Or.inl rfl) (Or.inr rfl)) (pgs_cons (pg_name (i := 3) sc_links_from.nd rfl (Or.inl rfl) (Or.inr rfl)) pgs_nil rfl) rfl) rfl rfl)) (fun _ _ _ _ _ => pts_nil) (fun _ _ _ _ _ => (pe_tup (pa_cons (pv 0) (pa_cons (pv 2) (pa_cons (pv 3) pa_nil)))))))), ?_⟩
    refine sd_retL x (dl_lcE (fun l d => .tuple [optD ko, .int l, d]) h2 rfl hn (by decide) (by decide) (fun _ _ => rfl) fun n d y G hi eG hy => ?_) q
    exact d_tup (da_cons (d_var rfl (dp_mono eG h1)) (da_cons (d_var rfl (.int _)) (da_cons (d_var rfl hy) da_nil))) (by show 3 ≤ 100000; decide)
theorem H_links (bl : Bl mg) (nx : NoX CX) (G_top : Has P w K mg base CX "top" 6 ["towers"] [] (spP K 1 R_top)) (G_links_from : Has P w K mg base CX "_links_from" 1 ["key", "following"] [] (spPL K 2 R_links_from))
    (F : FunD K "links" "links" (defArgs s_links) (defBody s_links) (defScope s_links) [] [] f fd) (hm : mg "links" = some (.ref f)) :
    Has P w K mg base CX "links" 7 ["towers"] [] (spPL K 1 R_links) := by
  refine has_mk F hm sc_links (spPL_len rfl) (fun _ _ _ _ _ _ us hl => match us, hl with | [_], _ => rfl) fun cdv A outer s H vs Q E hr h => ?_
  obtain ⟨B, ds, es, x, hl, hd, ⟨b, c, ts, rfl, hw, hn, h64, rfl⟩, q⟩ := h
  match vs, hd with
  | [v1], .cons h1 .nil =>
    have hpos := wf_pos hw
    have hm0 := maxOf_nn hpos
    have hm64 : maxOf 0 (ts.map (·.2)) ≤ 64 := maxOf_lt (by decide) fun y hy => by
      obtain ⟨p, hp, rfl⟩ := List.mem_map.mp hy
      exact h64 p hp
    have hN : topN ts ≤ 64 := by
      unfold topN
      omega
    refine ⟨_, (pss_cons (ps_set (i := 1) sc_links.nd rfl (by first | exact .inl rfl | exact .inr rfl) (pe_op op_rep (pe_lst (pa_cons pe_non pa_nil)) (pe_has G_top (hr.mono (by decide)) (by rfl) (pa_cons (pv 0) pa_nil) (nx _)))) (pss_cons (ps_set (i := 2) sc_links.nd rfl (by first | exact .inl rfl | exact .inr rfl) (pe_lst pa_nil)) (pss_cons (ps_for PassesOwn.never rfl (RT.pi_revA (by rfl) bl.reversed (pv 0)) (pg_row rfl (pgs_cons (pg_name (i := 3) sc_links.nd rfl (by first | exact .inl rfl | exact .inr rfl)) (pgs_cons (pg_name (i := 4) sc_links.nd rfl (by first | exact .inl rfl | exact .inr rfl)) pgs_nil))) (pss_cons (ps_expr (pe_bm PySem.F.plainAttrs_list PySem.F.slot_list_append PySem.F.type_list_append mt_append (pv 2) (pa_cons (pe_has G_links_from (hr.mono (by decide)) (by rfl) (pa_cons (pv 3) (pa_cons (pe_slice sl_list (pv 1) po_none (po_some (pv 4))) pa_nil)) (nx _)) pa_nil))) (pss_one (ps_asg (pe_op op_rep (pe_lst (pa_cons (pv 3) pa_nil)) (pv 4)) (pg_head (pv 1) (po_some (pv 4))))))) (pss_cons (ps_expr (pe_bm PySem.F.plainAttrs_list PySem.F.slot_list_append PySem.F.type_list_append mt_append (pv 2) (pa_cons (pe_has G_links_from (hr.mono (by decide)) (by rfl) (pa_cons pe_non (pa_cons (pv 1) pa_nil)) (nx _)) pa_nil))) (pss_one (ps_ret (pe_lc2 (own := [("part", 5), ("link", 6)]) (vs1 := [6]) (g := (gName 5)) (g1 := (gName 6)) (wi1 := iRow K (tVar 5)) (by rfl) sc_links.nd (RT.pi_revA (by rfl) bl.reversed (pv 2)) (blkOk_by (own := [("part", 5), ("link", 6)]) (N := n_links) (sc := defScope s_links) (by decide +kernel)) (by decide) (fun _ _ _ _ _ => (pg_name (i := 5) sc_links.nd rfl (Or.inl rfl) (Or.inr rfl))) (fun _ _ _ _ _ => pts_nil) (fun _ _ _ _ _ => (pi_row (pv 5))) (fun _ _ _ _ _ => (pg_name (i := 6) sc_links.nd rfl (Or.inl rfl) (Or.inr rfl))) (fun _ _ _ _ _ => pts_nil) (fun _ _ _ _ _ => (pv 6))))))))), ?_⟩
    -- following, parts
    refine qd_asgL x (dl_rep (dl_lst (da_cons d_non da_nil) (by show 1 ≤ 100000; decide)) (u_top (d_var rfl h1) hw (by omega)) hm0 (by omega) (by show 1 ≤ 1000; decide)) fun lf xf G1 H1 f0 f1 g1 hf hxf => ?_
    have exf : xf = (fol (topN ts) []).map optV := by
      refine of_opt (K := K) (H := G1) ?_
      have e : (List.replicate (maxOf 0 (ts.map (·.2))).toNat [PyData.none]).flatten = (fol (topN ts) []).map optD := by
        show _ = (List.replicate (topN ts) none).map optD
        rw [List.map_replicate]
        show (List.replicate (topN ts) [PyData.none]).flatten = _
        generalize topN ts = n
        induction n with
        | zero => rfl
        | succ n ih => rw [List.replicate_succ, List.flatten_cons, ih]; rfl
      rw [← e]
      exact hxf
    refine qd_asgL (K := K) g1.g2 (dl_lst da_nil (Nat.zero_le _)) fun lp xp G2 H2 p0 p1 g2 hp hxp => ?_
    have exp : xp = [] := by cases hxp; rfl
    subst exp
    have g12 := g1.trans g2
    have lfp : lf ≠ lp := ne_of_none hf p1
    have f2 : G2 lf = none := gr_out g2 f0 hf
    have hf2 := g2.h12 _ _ hf
    have lp0 : H lp = none := fresh_back g1.h12 p1
    -- the loop
    refine qd_forRev (σ := [some v1, some (.ref lf), some (.ref lp), none, none, none, none]) (j := 0) (B := B) (b := b) (ds := ts.map (prD c)) (g12.hg.trans g12.g2) h1 rfl (fun i σ' H' => (∃ a c, σ' = [some v1, some (.ref lf), some (.ref lp), a, c, none, none]) ∧ ∃ G ps, Gr B H G H' ∧ G lf = none ∧ G lp = none ∧ H' lf = some (.lst ((fol (topN ts) (ts.drop (ts.length - i))).map optV)) ∧
        H' lp = some (.lst ps) ∧ DpAll K G ps ((pts (topN ts) (ts.drop (ts.length - i))).map .list)) ?_ ?_ ?_ ?_
    · rw [Nat.sub_zero, List.drop_length]
      refine ⟨⟨none, none, rfl⟩, G2, [], g12, f2, p0, ?_, hp, .nil⟩
      rw [hf2, exf]
    · rintro i σ' H' _ ⟨_, G, ps, g, _⟩
      exact g.hg.trans g.g2
    · intro i d y σ' H' hi hd hy hI
      obtain ⟨⟨a, c', rfl⟩, G, ps, g, gf, gp, hlf, hlp, hps⟩ := hI
      rw [List.length_map] at hi hd
      rw [List.getElem?_map] at hd
      have hi' : ts.length - 1 - i < ts.length := by omega
      have hti : ts[ts.length - 1 - i]? = some ts[ts.length - 1 - i] := List.getElem?_eq_getElem hi'
      rw [hti] at hd
      cases hd
      have hdrop : ts.drop (ts.length - (i + 1)) = ts[ts.length - 1 - i] :: ts.drop (ts.length - i) := by
        rw [show ts.length - (i + 1) = ts.length - 1 - i by omega, List.drop_eq_getElem_cons hi', show ts.length - 1 - i + 1 = ts.length - i by omega]
      have hmem : ts[ts.length - 1 - i] ∈ ts := List.getElem_mem ..
      have htop := top_le _ hmem
      have h1p := hpos _ hmem
      have hrlen : (fol (topN ts) (ts.drop (ts.length - i))).length = topN ts := fol_len _ fun q hq => top_le q (List.mem_of_mem_drop hq)
      generalize ts[ts.length - 1 - i] = p at *
      generalize hr0 : ts.drop (ts.length - i) = r at *
      obtain ⟨k, h⟩ := p
      refine g_pairB (g.hg.trans g.g2) hy fun yk yh hyk hyh => ?_
      rw [hyk.int_of, hyh.int_of]
      have hpslen : ps.length ≤ 500 := by
        have e1 := hps.length
        rw [List.length_map, pts_len] at e1
        have e2 : r.length ≤ ts.length := by
          rw [← hr0, List.length_drop]
          omega
        omega
      -- parts.append(_links_from(key, following[:height]))
      refine ⟨_, rfl, .inl ⟨rfl, ps, sq_of hlp⟩, ⟨_, rfl, _, rfl, _, rfl, h, rfl, lf, _, rfl, sq_of hlf, fun q1 hq1 => ?_⟩⟩
      have cut : cutV ((fol (topN ts) r).map optV) none (some h) = ((fol (topN ts) r).take h.toNat).map optV := by
        have e1 : h = ((h.toNat : Nat) : Int) := by omega
        rw [e1, cut_head (α := Unit) _ _ (by rw [List.length_map]; omega), Int.toNat_natCast, List.map_take]
      rw [cut]
      have gq : G q1 = none := fresh_back g.g2 hq1
      have lfq : lf ≠ q1 := ne_of_none hlf hq1
      have lpq : lp ≠ q1 := ne_of_none hlp hq1
      have eB : Ex (upd G q1 (.lst (((fol (topN ts) r).take h.toNat).map optV))) (upd H' q1 (.lst (((fol (topN ts) r).take h.toNat).map optV))) := (Gr.new g.g2 hq1).g2
      refine ⟨_, [optD (some k), rows true (((fol (topN ts) r).take h.toNat).map optD)], _, eB, rfl, .cons (.int k) (.one (.lst (sq_of upd_same) (dpa_mono (Ex.new gq) (dpa_opt _)))), ⟨some k, true, _, rfl, by rw [List.length_map, List.length_take]; omega, rfl⟩, fun q2 ys G2 H2 c0 c1 gg hq2 hys => ?_⟩
      have g3 := (g.trans (Gr.new g.g2 hq1)).trans gg
      have hlp2 : H2 lp = some (.lst ps) := gg.h12 _ _ (by rw [upd_ne lpq]; exact hlp)
      have hlf2 : H2 lf = some (.lst ((fol (topN ts) r).map optV)) := gg.h12 _ _ (by rw [upd_ne lfq]; exact hlf)
      have gp2 : G2 lp = none := gr_out gg (by rw [upd_ne lpq]; exact gp) (by rw [upd_ne lpq]; exact hlp)
      have gf2 : G2 lf = none := gr_out gg (by rw [upd_ne lfq]; exact gf) (by rw [upd_ne lfq]; exact hlf)
      have q2n : H' q2 = none := fresh_back (Ex.new hq1) c1
      have q20 : H q2 = none := fresh_back g.h12 q2n
      have lpq2 : lp ≠ q2 := ne_of_none hlp q2n
      have lfq2 : lf ≠ q2 := ne_of_none hlf q2n
      refine ⟨lp, ps, .ref q2, rfl, rfl, hlp2, sz_lt (by omega), ?_⟩
      -- following[:height] = [key] * height
      have g4 := gr_freeze c0 q20 g3 hq2
      have gp4 : (upd G2 q2 (.lst ys)) lp = none := by rw [upd_ne lpq2]; exact gp2
      have gf4 : (upd G2 q2 (.lst ys)) lf = none := by rw [upd_ne lfq2]; exact gf2
      have hes4 := dp_freeze (K := K) c0 hys
      have lf0 : H lf = none := f1
      have g5 := gr_mut (o := .lst (ps ++ [.ref q2])) g4 gp4 lp0
      refine dl_rep (K := K) (dl_lst (da_cons (d_var rfl (.int k)) da_nil) (by show 1 ≤ 100000; decide)) (d_var rfl (.int h)) (by omega) (by have := h64 _ hmem; omega) (by show 1 ≤ 1000; decide) _ g5.g2 _ fun q3 xs4 G6 H6 d0 d1 g6 hq3 hx4 => ?_
      have ex4 : xs4 = (List.replicate h.toNat (some k)).map optV := by
        refine of_opt (K := K) (H := G6) ?_
        have e : (List.replicate h.toNat [PyData.int k]).flatten = (List.replicate h.toNat (some k)).map optD := by
          generalize h.toNat = n
          induction n with
          | zero => rfl
          | succ n ih => rw [List.replicate_succ, List.flatten_cons, ih]; rfl
        rw [← e]
        exact hx4
      have hlfm : (upd H2 lp (.lst (ps ++ [.ref q2]))) lf = some (.lst ((fol (topN ts) r).map optV)) := by rw [upd_ne lfp]; exact hlf2
      have hlf6 := g6.h12 _ _ hlfm
      have hlp6 : H6 lp = some (.lst (ps ++ [.ref q2])) := g6.h12 _ _ upd_same
      have lf3 : lf ≠ q3 := ne_of_none hlfm d1
      have eh : ((h.toNat : Nat) : Int) = h := by omega
      refine ⟨_, rfl, _, rfl, h, rfl, lf, q3, _, xs4, h.toNat, rfl, by rw [eh], rfl, hlf6, hq3, lf3, by rw [List.length_map]; omega, ?_, ?_⟩
      · rw [ex4, List.length_map, List.length_map, List.length_replicate]
        exact Nat.le_trans (show _ ≤ 1000 by omega) (by decide)
      · have g7 := g5.trans g6
        have gp6 : G6 lp = none := gr_out g6 gp4 upd_same
        have gf6 : G6 lf = none := gr_out g6 gf4 hlfm
        refine ⟨⟨_, _, rfl⟩, G6, ps ++ [.ref q2], gr_mut g7 gf6 lf0, gf6, gp6, ?_, ?_, ?_⟩
        · rw [upd_same, hdrop, fol, ex4, List.map_append, List.map_drop]
        · rw [upd_ne lfp.symm]
          exact hlp6
        · rw [hdrop, pts, List.map_append]
          refine (dpa_mono (((Gr.new g.g2 hq1).hg.trans gg.hg).trans ((Ex.new c0).trans g6.hg)) hps).append (.one (dp_mono g6.hg hes4))
    · -- behind the loop
      rintro σ' H' ⟨⟨a, c', rfl⟩, G, ps, g, gf, gp, hlf, hlp, hps⟩
      rw [List.length_map, Nat.sub_self, List.drop_zero] at hlf hps
      have hflen : (fol (topN ts) ts).length = topN ts := fol_len _ top_le
      have hpslen : ps.length ≤ 500 := by
        have e1 := hps.length
        rw [List.length_map, pts_len] at e1
        omega
      have gfz := gr_freeze gf f1 g hlf
      refine ⟨_, rfl, .inl ⟨rfl, ps, sq_of hlp⟩, ⟨_, rfl, ?_⟩⟩
      refine ⟨_, [optD none, rows true ((fol (topN ts) ts).map optD)], _, gfz.g2, rfl, .cons .non (.one (.lst (sq_of upd_same) (dpa_mono (Ex.new gf) (dpa_opt _)))), ⟨none, true, _, rfl, by rw [List.length_map]; omega, rfl⟩, fun q2 ys G2 H2 c0 c1 gg hq2 hys => ?_⟩
      have gpz : (upd G lf (.lst ((fol (topN ts) ts).map optV))) lp = none := by rw [upd_ne lfp.symm]; exact gp
      have g3 := gfz.trans gg
      have hlp2 : H2 lp = some (.lst ps) := gg.h12 _ _ hlp
      have gp2 : G2 lp = none := gr_out gg gpz hlp
      have q20 : H q2 = none := fresh_back g.h12 c1
      have lpq2 : lp ≠ q2 := ne_of_none hlp c1
      refine ⟨lp, ps, .ref q2, rfl, rfl, hlp2, sz_lt (by omega), ?_⟩
      have g4 := gr_freeze c0 q20 g3 hq2
      have gp4 : (upd G2 q2 (.lst ys)) lp = none := by rw [upd_ne lpq2]; exact gp2
      have hes4 := dp_freeze (K := K) c0 hys
      have g5 := gr_mut (o := .lst (ps ++ [.ref q2])) g4 gp4 lp0
      have g6 := gr_freeze gp4 lp0 g5 upd_same
      have hall : Dp K (upd (upd G2 q2 (.lst ys)) lp (.lst (ps ++ [.ref q2]))) (.ref lp) (rows true ((pts (topN ts) ts ++ [lkF none (fol (topN ts) ts)]).map .list)) := by
        rw [List.map_append]
        exact dp_freeze gp4 ((dpa_mono (((Ex.new gf).trans gg.hg).trans (Ex.new c0)) hps).append (.one hes4))
      refine sd_retL g6.g2 (dl_lc2rev (a := 5) (c := 6) hall rfl ?_ (by decide) (by show 5 < 7; decide) (by show 6 < 7; decide) (fun _ => rfl) (fun _ _ => rfl)) fun p xs G7 H7 e0 e1 g7 hp7 hx7 => q p xs G7 H7 e0 (fresh_back g6.h12 e1) (g6.trans g7) hp7 hx7
      have hfl := pts_flat (topN ts) (ts := ts) top_le
      have hmul : ts.length * topN ts ≤ 500 * 64 := Nat.mul_le_mul hn hN
      rw [List.flatten_append, List.length_append, List.flatten_cons, List.flatten_nil, List.append_nil, lkF_len]
      omega
end
end Tk
end

section
set_option Elab.async false
set_option linter.all false
set_option maxRecDepth 100000
set_option maxHeartbeats 1000000
/-! The law's source of choices. -/
namespace Tk
open PySem PySem.Spec PyProof.Rows L2 Evl Tb
abbrev s_law_source_of : Stmt := topS 24
abbrev n_law_source_of : List Str := ["_law_cell"]
theorem sc_law_source_of : FnScope n_law_source_of ["_law_cell"] (defScope s_law_source_of) := ⟨rfl, rfl, rfl, by decide +kernel, rfl, by decide +kernel, by decide +kernel⟩

abbrev s_law_next : Stmt := topS 25
abbrev n_law_next : List Str := ["_law_source", "_law_many", "_law_found", "_law_prime", "_law_number"]
theorem sc_law_next : FnScope n_law_next ["_law_source", "_law_many"] (defScope s_law_next) := ⟨rfl, rfl, rfl, by decide +kernel, rfl, by decide +kernel, by decide +kernel⟩

abbrev s_law_one : Stmt := topS 26
abbrev n_law_one : List Str := ["_law_source", "_law_some"]
theorem sc_law_one : FnScope n_law_one ["_law_source", "_law_some"] (defScope s_law_one) := ⟨rfl, rfl, rfl, by decide +kernel, rfl, by decide +kernel, by decide +kernel⟩

abbrev s_law_towers : Stmt := topS 27
abbrev n_law_towers : List Str := ["_law_source", "_law_many", "_law_high", "_law_found", "_law_key", "_law_k", "_law_height"]
theorem sc_law_towers : FnScope n_law_towers ["_law_source", "_law_many", "_law_high"] (defScope s_law_towers) := ⟨rfl, rfl, rfl, by decide +kernel, rfl, by decide +kernel, by decide +kernel⟩

/-- all but what stands at a is as it was -/
def Exa (a : Addr) (H H' : Hp) : Prop := ∀ b o, b ≠ a → H b = some o → H' b = some o
theorem Exa.trans {a : Addr} {H H1 H2 : Hp} (x : Exa a H H1) (y : Exa a H1 H2) : Exa a H H2 := fun b o h e => y b o h (x b o h e)
theorem Exa.of {a : Addr} {H H1 : Hp} (x : Ex H H1) : Exa a H H1 := fun b o _ e => x b o e
theorem Exa.upd {a : Addr} {H : Hp} {o : HO} : Exa a H (upd H a o) := fun b u h e => by rw [upd_ne h]; exact e
/-- what does not know a stays -/
theorem Exa.base {a : Addr} {B H H' : Hp} (y : Exa a H H') (x : Ex B H) (h : B a = none) : Ex B H' := fun b o e => y b o (ne_of_none e h) (x b o e)
def SrcAt (H : Hp) (a : Addr) : Prop := ∃ s0 s1 s2 : Int, H a = some (.lst [.int s0, .int s1, .int s2])
theorem SrcAt.mono {H H' : Hp} {a : Addr} (e : Ex H H') (h : SrcAt H a) : SrcAt H' a := let ⟨s0, s1, s2, h⟩ := h; ⟨s0, s1, s2, e _ _ h⟩
structure GrA (a : Addr) (B H G H' : Hp) : Prop where
  hg : Ex B G
  g2 : Ex G H'
  h12 : Exa a H H'
  sep : ∀ b, B b = none → H b ≠ none → G b = none
theorem GrA.of {a : Addr} {B H G H' : Hp} (g : Gr B H G H') : GrA a B H G H' := ⟨g.hg, g.g2, .of g.h12, g.sep⟩
theorem GrA.turn {a : Addr} {B H H' : Hp} (x : Ex B H) (h : B a = none) (y : Exa a H H') : GrA a B H B H' := ⟨Ex.refl B, y.base x h, y, fun _ h _ => h⟩
theorem GrA.trans {a : Addr} {B H G H1 G' H2 : Hp} (x : GrA a B H G H1) (y : GrA a G H1 G' H2) (hs : H1 a ≠ none) : GrA a B H G' H2 :=
  ⟨x.hg.trans y.hg, y.g2, x.h12.trans y.h12, fun b h1 h2 => y.sep b (x.sep b h1 h2) fun z => by
    by_cases c : b = a
    · subst c
      exact hs z
    · cases q : H b with
      | none => exact h2 q
      | some o =>
        rw [x.h12 b o c q] at z
        cases z⟩
theorem SrcAt.ne {H : Hp} {a : Addr} (h : SrcAt H a) : H a ≠ none := let ⟨_, _, _, e⟩ := h; fun z => by rw [z] at e; cases e

def spSourceOf : Sp := fun vs H Q _ => ∃ n : Int, vs = [.int n] ∧ ∀ p H2, H p = none → Ex H H2 → (∀ b, b ≠ p → H b ≠ none ∨ H2 b = none → True) → SrcAt H2 p → Q (.ref p) H2
def spNext : Sp := fun vs H Q _ => ∃ (a : Addr) (m : Int), vs = [.ref a, .int m] ∧ SrcAt H a ∧ 0 < m ∧ m ≤ 10 ^ 20 ∧ ∀ (r : Int) H', 0 ≤ r → r < m → Exa a H H' → SrcAt H' a → Q (.int r) H'
def spOne (K : PySem.W.Frag) : Sp := fun vs H Q _ => ∃ (a : Addr) (v2 : V) (B : Hp) (b : Bool) (ds : List PyData), vs = [.ref a, v2] ∧ Ex B H ∧ B a = none ∧ SrcAt H a ∧ Dp K B v2 (rows b ds) ∧ 0 < ds.length ∧ ds.length ≤ 1000 ∧
  ∀ d v H', d ∈ ds → Dp K B v d → Exa a H H' → SrcAt H' a → Q v H'
section
variable {P : Program} {w : World} {K : PySem.W.Frag} {mg : Str → Option Value} {base : Heap} {CX : CXT} {f : Addr} {fd : FuncData}
theorem H_source_of (bl : Bl mg) (F : FunD K "_law_source_of" "_law_source_of" (defArgs s_law_source_of) (defBody s_law_source_of) (defScope s_law_source_of) [] [] f fd) (hm : mg "_law_source_of" = some (.ref f)) :
    Has P w K mg base CX "_law_source_of" 1 ["_law_cell"] [] spSourceOf := by
  refine has_mk F hm sc_law_source_of (fun vs H Q E h => by obtain ⟨n, rfl, _⟩ := h; rfl) (fun _ _ _ _ _ _ us hl => match us, hl with | [_], _ => rfl) fun cdv A outer s H vs Q E hr h => ?_
  obtain ⟨n, rfl, q⟩ := h
  refine ⟨_, (pss_cons (ps_set (i := 0) sc_law_source_of.nd rfl (by first | exact .inl rfl | exact .inr rfl) (pe_ifExp (pt_cmpR op_ge (pv 0) pe_int (nomark _)) (pv 0) (pe_op op_sub (pe_op op_sub pe_int (pe_op op_mul pe_int (pv 0))) pe_int))) (pss_one (ps_ret (pe_lst (pa_cons (pe_op op_mul (pv 0) (pe_callTy call_int1 (by rfl) bl.int bb_int (pa_cons (pe_cmpR op_ge (pv 0) (pe_op op_pow pe_int pe_int) (nomark _)) pa_nil))) (pa_cons (pe_op op_mod (pe_callTy call_int1 (by rfl) bl.int bb_int (pa_cons (pv 0) pa_nil)) pe_int) (pa_cons pe_int pa_nil))))))), ?_⟩
  have x := Ex.refl H
  have hn : Dp K H (.int n) (.int n) := .int n
  refine qd_asg (K := K) (d := .int (if 0 ≤ n then n else 0 - 3 * n - 1)) x (d_if (b := decide (0 ≤ n)) (t_test (d_op (d_var rfl hn) d_int fun _ _ => rd_cmp)) (fun h => ?_) fun h => ?_) fun v G H1 g hv => ?_
  · rw [if_pos (of_decide_eq_true h)]
    exact d_var rfl hn
  · rw [if_neg (of_decide_eq_false h)]
    exact d_op (d_op d_int (d_op d_int (d_var rfl hn) fun _ _ => rd_intC (.inl ⟨by decide, by decide⟩)) fun _ _ => rd_int) d_int fun _ _ => rd_int
  · generalize (if 0 ≤ n then n else 0 - 3 * n - 1) = k at hv
    refine sd_retL (K := K) g.g2 (dl_lst (ds := [_, _, .int 0]) (da_cons (d_op (d_var rfl hv) (d_cb (da_cons (d_op (d_var rfl hv) (d_op d_int d_int fun _ _ => rd_intC (⟨by decide, by decide, by decide⟩ : CPow 10 18)) fun _ _ => rd_cmp) da_nil) fun _ _ => rcd_intB) fun _ _ => rd_intC (.inr ?_))
      (da_cons (d_op (d_cb (da_cons (d_var rfl hv) da_nil) fun _ _ => rcd_int1) d_int fun _ _ => rd_intC (by show (0 : Int) < 2147483647; decide)) (da_cons d_int da_nil))) (by show 3 ≤ 100000; decide)) fun p xs G2 H2 g0 h0 g2 hp hxs => ?_
    · split <;> exact ⟨by decide, by decide⟩
    · match xs, hxs with
      | [_, _, _], .cons a1 (.cons a2 (.cons a3 .nil)) =>
        rw [a1.int_of, a2.int_of, a3.int_of] at hp
        exact q p H2 (fresh_back g.h12 h0) (g.h12.trans g2.h12) (fun _ _ _ => trivial) ⟨_, _, _, hp⟩
end
end Tk
end

section
set_option Elab.async false
set_option linter.all false
set_option maxRecDepth 100000
set_option maxHeartbeats 1000000
/-! The law's numbers. -/
namespace Tk
open PySem PySem.Spec PyProof.Rows L2 Evl Tb
def Sr (a : Addr) (s0 s1 s2 : Int) : Hp := upd (fun _ => none) a (.lst [.int s0, .int s1, .int s2])
theorem sr_ex {a : Addr} {s0 s1 s2 : Int} {H : Hp} (h : H a = some (.lst [.int s0, .int s1, .int s2])) : Ex (Sr a s0 s1 s2) H := fun b o e => by
  unfold Sr at e
  by_cases c : b = a
  · subst c
    rw [upd_same] at e
    cases e
    exact h
  · rw [upd_ne c] at e
    cases e
section
variable {K : PySem.W.Frag} {σ : L2.St} {H : Hp} {te : TE} {D : Ends} {tz : TS} {a : Addr} {s0 s1 s2 : Int}
theorem sr_dp : Dp K (Sr a s0 s1 s2) (.ref a) (rows true [.int s0, .int s1, .int s2]) := .lst (sq_of upd_same) (DpAll.of_ints [s0, s1, s2])
theorem d_sr {k n : Int} (hv : σ[0]? = some (some (.ref a))) (hk : atI [PyData.int s0, .int s1, .int s2] k = some (.int n)) : EvD K (tOp (rIxR K) (tVar 0) (tC (.int k))) σ (Sr a s0 s1 s2) (.int n) := d_op (d_var hv sr_dp) d_int fun _ _ => rd_ix hk
theorem qd_setS {k : Int} {j : Nat} {n : Int} (h : H a = some (.lst [.int s0, .int s1, .int s2])) (hv : σ[0]? = some (some (.ref a))) (he : EvD K te σ (Sr a s0 s1 s2) (.int n)) (hj : ixN 3 k = some j)
    (kk : ∀ H1, Exa a H H1 → H1 a = some (.lst (([.int s0, .int s1, .int s2] : List V).set j (.int n))) → tz D σ H1) : tSeq (tAsg te (gSub (tVar 0) (tC (.int k)) rSetL)) tz D σ H := he H (sr_ex h) _ fun v G H1 g hv1 => by
  rw [hv1.int_of]
  exact ⟨_, hv, a, _, k, j, rfl, rfl, g.h12 _ _ h, hj, kk _ ((Exa.of g.h12).trans Exa.upd) upd_same⟩
end
theorem mod_in {x m : Int} (h : 0 < m) : 0 ≤ x % m ∧ x % m < m := ⟨Int.emod_nonneg x (by omega), Int.emod_lt_of_pos x h⟩
section
variable {P : Program} {w : World} {K : PySem.W.Frag} {mg : Str → Option Value} {base : Heap} {CX : CXT} {f : Addr} {fd : FuncData}
theorem H_next (bl : Bl mg) (F : FunD K "_law_next" "_law_next" (defArgs s_law_next) (defBody s_law_next) (defScope s_law_next) [] [] f fd) (hm : mg "_law_next" = some (.ref f)) :
    Has P w K mg base CX "_law_next" 1 ["_law_source", "_law_many"] [] spNext := by
  refine has_mk F hm sc_law_next (fun vs H Q E h => by obtain ⟨a, m, rfl, _⟩ := h; rfl) (fun _ _ _ _ _ _ us hl => match us, hl with | [_, _], _ => rfl) fun cdv A outer s H vs Q E hr h => ?_
  obtain ⟨a, m, rfl, ⟨s0, s1, s2, ha⟩, m0, m20, q⟩ := h
  refine ⟨_, (pss_cons (ps_if (pt_cmpR op_gt (pe_ix ix_row (pv 0) pe_int (fun _ _ => rfl)) pe_int (nomark _)) (pss_cons (ps_set (i := 2) sc_law_next.nd rfl (by first | exact .inl rfl | exact .inr rfl) (pe_op op_mod (pe_callTy call_int1 (by rfl) bl.int bb_int (pa_cons (pe_ix ix_row (pv 0) pe_int (fun _ _ => rfl)) pa_nil)) (pv 1))) (pss_cons (ps_asg (pe_op op_fdivW (pe_ix ix_row (pv 0) pe_int (fun _ _ => rfl)) (pv 1)) (pg_sub (pv 0) pe_int set_list)) (pss_one (ps_ret (pv 2))))) pss_nil) (pss_cons (ps_asg (pe_op op_add (pe_ix ix_row (pv 0) pe_int (fun _ _ => rfl)) pe_int) (pg_sub (pv 0) pe_int set_list)) (pss_cons (ps_set (i := 3) sc_law_next.nd rfl (by first | exact .inl rfl | exact .inr rfl) pe_int) (pss_cons (ps_set (i := 4) sc_law_next.nd rfl (by first | exact .inl rfl | exact .inr rfl) (pe_op op_mod (pe_callTy call_int1 (by rfl) bl.int bb_int (pa_cons (pe_op op_add (pe_op op_add (pe_ix ix_row (pv 0) pe_int (fun _ _ => rfl)) (pe_op op_mul pe_int (pe_ix ix_row (pv 0) pe_int (fun _ _ => rfl)))) pe_int) pa_nil)) (pv 3))) (pss_cons (ps_set (i := 4) sc_law_next.nd rfl (by first | exact .inl rfl | exact .inr rfl) (pe_op op_mod (pe_callTy call_int1 (by rfl) bl.int bb_int (pa_cons (pe_op op_mul (pv 4) pe_int) pa_nil)) (pv 3))) (pss_cons (ps_set (i := 4) sc_law_next.nd rfl (by first | exact .inl rfl | exact .inr rfl) (pe_op op_mod (pe_callTy call_int1 (by rfl) bl.int bb_int (pa_cons (pe_op op_mul (pv 4) (pe_op op_add (pe_op op_fdivW (pv 4) pe_int) pe_int)) pa_nil)) (pv 3))) (pss_cons (ps_set (i := 4) sc_law_next.nd rfl (by first | exact .inl rfl | exact .inr rfl) (pe_op op_mod (pe_callTy call_int1 (by rfl) bl.int bb_int (pa_cons (pe_op op_mul (pv 4) (pe_op op_add (pe_op op_fdivW (pv 4) pe_int) pe_int)) pa_nil)) pe_int)) (pss_one (ps_ret (pe_op op_mod (pe_callTy call_int1 (by rfl) bl.int bb_int (pa_cons (pe_op op_fdivW (pv 4) pe_int) pa_nil)) (pv 1))))))))))), ?_⟩
  have m70 : m.natAbs < 2 ^ 70 := by
    have : (10 : Int) ^ 20 < 2 ^ 70 := by decide
    omega
  have mI : ∀ G, Dp K G (.int m) (.int m) := fun _ => .int m
  refine qd_when (b := decide (s0 > 0)) (sr_ex ha) (t_test (K := K) (d_op (d_sr rfl rfl) d_int fun _ _ => rd_cmp)) (fun _ H1 e1 => ?_) (fun _ H1 e1 => ?_)
  · have h1 := e1 _ _ ha
    refine qd_asg (K := K) (d := .int (s0 % m)) (sr_ex h1) (d_op (d_cb (da_cons (d_sr rfl rfl) da_nil) fun _ _ => rcd_int1) (d_var rfl (mI _)) fun _ _ => rd_intC m0) fun v G H2 g hv => ?_
    rw [hv.int_of]
    have h2 := g.h12 _ _ h1
    refine qd_setS (K := K) (n := s0 / m) (j := 0) h2 rfl (d_op (d_sr rfl rfl) (d_var rfl (mI _)) fun _ _ => rd_intC (wide_div m0 m70 (by decide) (by decide))) rfl fun H3 x3 h3 => ?_
    have mm := mod_in (x := s0) m0
    exact ⟨_, rfl, q _ _ mm.1 mm.2 ((Exa.of (e1.trans g.h12)).trans x3) ⟨_, _, _, h3⟩⟩
  · have h1 := e1 _ _ ha
    refine qd_setS (K := K) (n := s2 + 1) (j := 2) h1 rfl (d_op (d_sr rfl rfl) d_int fun _ _ => rd_int) rfl fun H2 x2 h2 => ?_
    have h2 : H2 a = some (.lst [.int s0, .int s1, .int (s2 + 1)]) := h2
    have X2 := (Exa.of e1).trans x2
    refine qd_asg (K := K) (d := .int 2147483647) (sr_ex h2) d_int fun v G H3 g3 hv => ?_
    rw [hv.int_of]
    have h3 := g3.h12 _ _ h2
    have X3 := X2.trans (Exa.of g3.h12)
    have pI : ∀ G, Dp K G (.int 2147483647) (.int 2147483647) := fun _ => .int _
    have p0 : (0 : Int) < 2147483647 := by decide
    refine qd_asg (K := K) (d := .int ((s1 + 104729 * (s2 + 1) + 7919) % 2147483647)) (sr_ex h3) (d_op (d_cb (da_cons (d_op (d_op (d_sr rfl rfl) (d_op d_int (d_sr rfl rfl) fun _ _ => rd_intC (.inl ⟨by decide, by decide⟩)) fun _ _ => rd_int) d_int fun _ _ => rd_int) da_nil) fun _ _ => rcd_int1) (d_var rfl (pI _)) fun _ _ => rd_intC p0) fun v G4 H4 g4 hv => ?_
    rw [hv.int_of]
    have b4 := mod_in (x := s1 + 104729 * (s2 + 1) + 7919) p0
    generalize (s1 + 104729 * (s2 + 1) + 7919) % 2147483647 = n4 at b4
    have h4 := g4.h12 _ _ h3
    have X4 := X3.trans (Exa.of g4.h12)
    refine qd_asg (K := K) (d := .int (n4 * 48271 % 2147483647)) (sr_ex h4) (d_op (d_cb (da_cons (d_op (d_var rfl (.int n4)) d_int fun _ _ => rd_intC (.inr ⟨by decide, by decide⟩)) da_nil) fun _ _ => rcd_int1) (d_var rfl (pI _)) fun _ _ => rd_intC p0) fun v G5 H5 g5 hv => ?_
    rw [hv.int_of]
    have b5 := mod_in (x := n4 * 48271) p0
    generalize n4 * 48271 % 2147483647 = n5 at b5
    have h5 := g5.h12 _ _ h4
    have X5 := X4.trans (Exa.of g5.h12)
    refine qd_asg (K := K) (d := .int (n5 * (n5 / 1009 + 69621) % 2147483647)) (sr_ex h5) (d_op (d_cb (da_cons (d_op (d_var rfl (.int n5)) (d_op (d_op (d_var rfl (.int n5)) d_int fun _ _ => rd_intC (wide_div (b := 10) (by decide) (by decide) (by decide) (by decide))) d_int fun _ _ => rd_int) fun _ _ => rd_intC (.inl ⟨by omega, by omega⟩)) da_nil) fun _ _ => rcd_int1) (d_var rfl (pI _)) fun _ _ => rd_intC p0) fun v G6 H6 g6 hv => ?_
    rw [hv.int_of]
    have b6 := mod_in (x := n5 * (n5 / 1009 + 69621)) p0
    generalize n5 * (n5 / 1009 + 69621) % 2147483647 = n6 at b6
    have h6 := g6.h12 _ _ h5
    have X6 := X5.trans (Exa.of g6.h12)
    refine qd_asg (K := K) (d := .int (n6 * (n6 / 2003 + 40692) % 2147483399)) (sr_ex h6) (d_op (d_cb (da_cons (d_op (d_var rfl (.int n6)) (d_op (d_op (d_var rfl (.int n6)) d_int fun _ _ => rd_intC (wide_div (b := 11) (by decide) (by decide) (by decide) (by decide))) d_int fun _ _ => rd_int) fun _ _ => rd_intC (.inl ⟨by omega, by omega⟩)) da_nil) fun _ _ => rcd_int1) d_int fun _ _ => rd_intC (by show (0 : Int) < 2147483399; decide)) fun v G7 H7 g7 hv => ?_
    rw [hv.int_of]
    generalize n6 * (n6 / 2003 + 40692) % 2147483399 = n7
    have h7 := g7.h12 _ _ h6
    have X7 := X6.trans (Exa.of g7.h12)
    refine sd_ret (K := K) (d := .int (n7 / 7 % m)) (sr_ex h7) (d_op (d_cb (da_cons (d_op (d_var rfl (.int n7)) d_int fun _ _ => rd_intC (wide_div (b := 3) (by decide) (by decide) (by decide) (by decide))) da_nil) fun _ _ => rcd_int1) (d_var rfl (mI _)) fun _ _ => rd_intC m0) fun v G8 H8 g8 hv => ?_
    rw [hv.int_of]
    have mm := mod_in (x := n7 / 7) m0
    exact q _ _ mm.1 mm.2 (X7.trans (Exa.of g8.h12)) ⟨_, _, _, g8.h12 _ _ h7⟩
theorem H_one (bl : Bl mg) (nx : NoX CX) (G_law_next : Has P w K mg base CX "_law_next" 1 ["_law_source", "_law_many"] [] spNext)
    (F : FunD K "_law_one" "_law_one" (defArgs s_law_one) (defBody s_law_one) (defScope s_law_one) [] [] f fd) (hm : mg "_law_one" = some (.ref f)) :
    Has P w K mg base CX "_law_one" 2 ["_law_source", "_law_some"] [] (spOne K) := by
  refine has_mk F hm sc_law_one (fun vs H Q E h => by obtain ⟨a, v2, B, b, ds, rfl, _⟩ := h; rfl) (fun _ _ _ _ _ _ us hl => match us, hl with | [_, _], _ => rfl) fun cdv A outer s H vs Q E hr h => ?_
  obtain ⟨a, v2, B, b, ds, rfl, x, ba, hs, hd, hl, hl2, q⟩ := h
  refine ⟨_, (pss_one (ps_ret (pe_ix ix_row (pv 1) (pe_has G_law_next (hr.mono (by decide)) (by rfl) (pa_cons (pv 0) (pa_cons (pe_callB call_len_seq (by rfl) bl.len bb_len (pa_cons (pv 1) pa_nil)) pa_nil)) (nx _)) (fun _ _ => rfl)))), ?_⟩
  refine ⟨v2, rfl, _, rfl, ?_⟩
  refine d_cb (K := K) (z := .int ds.length) (da_cons (d_var (v := v2) rfl hd) da_nil) (fun _ _ => rcd_len) H x _ fun v G H1 g hv => ?_
  rw [hv.int_of]
  refine ⟨a, ds.length, rfl, hs.mono g.h12, by omega, by omega, fun r H2 r0 r1 e s2 => ?_⟩
  obtain ⟨k, rfl⟩ : ∃ k : Nat, r = (k : Int) := ⟨r.toNat, by omega⟩
  have hk : k < ds.length := by omega
  have xB : Ex B H2 := e.base (x.trans g.h12) ba
  obtain ⟨ad, xs, rfl, hrow, hds⟩ := row_of hd
  obtain ⟨y, h1, h2⟩ := at_dp hds (atI_nat (List.getElem?_eq_getElem hk))
  have fin := q _ y H2 (List.getElem_mem hk) h2 ((Exa.of g.h12).trans e) s2
  rcases hrow with hrow | hrow
  · exact .inl ⟨ad, xs, k, y, rfl, rfl, ex_l xB hrow, h1, fin⟩
  · exact .inr ⟨ad, xs, k, y, rfl, rfl, ex_t xB hrow, h1, fin⟩
end
end Tk
end

section
set_option Elab.async false
set_option linter.all false
set_option maxRecDepth 100000
set_option maxHeartbeats 1000000
/-! The law's towers. -/
namespace Tk
open PySem PySem.Spec PyProof.Rows L2 Evl Tb
theorem one_ex {H : Hp} {p : Addr} {o : HO} (h : H p = some o) : Ex (upd (fun _ => none) p o) H := fun b u e => by
  by_cases c : b = p
  · subst c
    rw [upd_same] at e
    cases e
    exact h
  · rw [upd_ne c] at e
    cases e
theorem one_ne {p a : Addr} {o : HO} (h : a ≠ p) : (upd (fun _ => none) p o : Hp) a = none := by rw [upd_ne h]
theorem GrA.next {a : Addr} {B H G H1 H2 : Hp} (g : GrA a B H G H1) (ga : G a = none) (hs : H1 a ≠ none) (e : Exa a H1 H2) : GrA a B H G H2 := g.trans (GrA.turn g.g2 ga e) hs
theorem GrA.free {a : Addr} {B H G H1 : Hp} (g : GrA a B H G H1) (ba : B a = none) (hs : H a ≠ none) : G a = none := g.sep a ba hs
theorem GrA.mut {a : Addr} {B H G H1 : Hp} {l : Addr} {o : HO} (g : GrA a B H G H1) (g0 : G l = none) (h0 : H l = none) : GrA a B H G (upd H1 l o) :=
  ⟨g.hg, Ex.mut g.g2 g0, fun b u hb hu => by rw [upd_ne (ne_of_none hu h0)]; exact g.h12 b u hb hu, g.sep⟩
theorem wf_snoc {k h : Int} (hh : 1 ≤ h) : ∀ {ts : Tw} {q : Option Int}, WfF q ts → (∀ p ∈ ts, p.1 < k) → (∀ x, q = some x → x < k) → WfF q (ts ++ [(k, h)])
  | [], none, _, _, _ => ⟨hh, rfl, trivial⟩
  | [], some x, _, _, hq => ⟨hh, decide_eq_false (by have := hq x rfl; omega), trivial⟩
  | (k', h') :: r, q, hw, hp, _ => ⟨hw.1, hw.2.1, wf_snoc hh hw.2.2 (fun p y => hp p (List.mem_cons_of_mem _ y)) fun x e => by cases e; exact hp (k', h') (List.mem_cons_self ..)⟩
def PrA (K : PySem.W.Frag) (G : Hp) (ps : List Addr) (ts : Tw) : Prop := Paired (fun b (p : Int × Int) => SqT K G b [.int p.1, .int p.2]) ps ts
theorem PrA.mono {K : PySem.W.Frag} {G G' : Hp} (e : Ex G G') : ∀ {ps : List Addr} {ts : Tw}, PrA K G ps ts → PrA K G' ps ts
  | _, _, .nil => .nil
  | _, _, .cons h t => .cons (ex_t e h) (PrA.mono e t)
theorem PrA.dp {K : PySem.W.Frag} {G : Hp} : ∀ {ps : List Addr} {ts : Tw}, PrA K G ps ts → DpAll K G (ps.map V.ref) (ts.map (prD false))
  | _, _, .nil => .nil
  | _, _, .cons h t => .cons (.tup h (DpAll.of_ints [_, _])) (PrA.dp t)
def spTowers (K : PySem.W.Frag) : Sp := fun vs H Q _ => ∃ (a : Addr) (many high : Int) (B : Hp), vs = [.ref a, .int many, .int high] ∧ Ex B H ∧ B a = none ∧ SrcAt H a ∧ 0 ≤ many ∧ many ≤ 400 ∧ 1 ≤ high ∧ high ≤ 64 ∧
  ∀ (ts : Tw) (T : Addr) (o : Obj) (ps : List Addr) (G H' : Hp), WfF none ts → (ts.length : Int) ≤ many → (∀ p ∈ ts, p.2 ≤ high) → GrA a B H G H' → SrcAt H' a → G T = some (.frz o (.tup (ps.map V.ref))) → o.cls = .type "tuple" → o.dict = none → PrA K G ps ts → Q (.ref T) H'
section
variable {P : Program} {w : World} {K : PySem.W.Frag} {mg : Str → Option Value} {base : Heap} {CX : CXT} {f : Addr} {fd : FuncData}
theorem H_towers (bl : Bl mg) (nx : NoX CX) (G_law_next : Has P w K mg base CX "_law_next" 1 ["_law_source", "_law_many"] [] spNext) (G_law_one : Has P w K mg base CX "_law_one" 2 ["_law_source", "_law_some"] [] (spOne K))
    (F : FunD K "_law_towers" "_law_towers" (defArgs s_law_towers) (defBody s_law_towers) (defScope s_law_towers) [] [] f fd) (hm : mg "_law_towers" = some (.ref f)) :
    Has P w K mg base CX "_law_towers" 3 ["_law_source", "_law_many", "_law_high"] [] (spTowers K) := by
  refine has_mk F hm sc_law_towers (fun vs H Q E h => by obtain ⟨a, m, hi, B, rfl, _⟩ := h; rfl) (fun _ _ _ _ _ _ us hl => match us, hl with | [_, _, _], _ => rfl) fun cdv A outer s H vs Q E hr h => ?_
  obtain ⟨a, many, high, B, rfl, x, ba, hs, m0, m1, h0, h1, q⟩ := h
  refine ⟨_, (pss_cons (ps_par (i := 3) (j := 4) (by rfl) sc_law_towers.nd rfl rfl (by decide) rfl rfl (pa_cons (pe_lst pa_nil) (pa_cons (pe_op op_sub (pe_has G_law_next (hr.mono (by decide)) (by rfl) (pa_cons (pv 0) (pa_cons pe_int pa_nil)) (nx _)) pe_int) pa_nil)) (by rfl)) (pss_cons (ps_for PassesOwn.never rfl (pi_range1 rfl bl.range (pa_cons (pe_has G_law_next (hr.mono (by decide)) (by rfl) (pa_cons (pv 0) (pa_cons (pe_op op_add (pv 1) pe_int) pa_nil)) (nx _)) pa_nil)) (pg_name (i := 5) sc_law_towers.nd rfl (by first | exact .inl rfl | exact .inr rfl)) (pss_cons (ps_set (i := 4) sc_law_towers.nd rfl (by first | exact .inl rfl | exact .inr rfl) (pe_op op_add (pe_op op_add (pv 4) pe_int) (pe_has G_law_one (hr.mono (by decide)) (by rfl) (pa_cons (pv 0) (pa_cons (pe_lst (pa_cons pe_int (pa_cons pe_int (pa_cons pe_int (pa_cons pe_int (pa_cons (pe_has G_law_next (hr.mono (by decide)) (by rfl) (pa_cons (pv 0) (pa_cons (pe_op op_pow pe_int pe_int) pa_nil)) (nx _)) pa_nil)))))) pa_nil)) (nx _)))) (pss_cons (ps_set (i := 6) sc_law_towers.nd rfl (by first | exact .inl rfl | exact .inr rfl) (pe_op op_add pe_int (pe_has G_law_one (hr.mono (by decide)) (by rfl) (pa_cons (pv 0) (pa_cons (pe_lst (pa_cons pe_int (pa_cons pe_int (pa_cons pe_int (pa_cons pe_int (pa_cons pe_int (pa_cons pe_int (pa_cons pe_int (pa_cons (pe_op op_sub (pv 2) pe_int) pa_nil))))))))) pa_nil)) (nx _)))) (pss_one (ps_expr (pe_bm PySem.F.plainAttrs_list PySem.F.slot_list_append PySem.F.type_list_append mt_append (pv 3) (pa_cons (pe_tup (pa_cons (pv 4) (pa_cons (pe_callB (call_min2 rfl) (by rfl) bl.min bb_min (pa_cons (pv 6) (pa_cons (pv 2) pa_nil))) pa_nil))) pa_nil))))))) (pss_one (ps_ret (pe_callTy call_tuple_fz (by rfl) bl.tuple bb_tuple (pa_cons (pv 3) pa_nil)))))), ?_⟩
  have hna := hs.ne
  -- found, key
  refine ⟨by show 0 ≤ sizeLine; decide, fun lf hlf => ?_⟩
  have lfa : lf ≠ a := fun z => by subst z; exact hna hlf
  refine ⟨_, rfl, a, 40, rfl, hs.mono (Ex.new hlf), by decide, by decide, fun r H1 _ _ e1 s1 => ⟨r, 30, rfl, rfl, _, _, rfl, ?_⟩⟩
  have g1 : GrA a B H B H1 := (GrA.of (Gr.mut x hlf)).next ba (by rw [upd_ne lfa.symm]; exact hna) e1
  have l1 : H1 lf = some (.lst []) := e1 lf _ lfa upd_same
  have bl0 : B lf = none := fresh_back x hlf
  -- the loop
  refine ⟨_, rfl, _, rfl, many, 1, rfl, rfl, a, many + 1, rfl, s1, by omega, Int.le_trans (show many + 1 ≤ 401 by omega) (by decide), fun n H2 n0 n1 e2 s2 => ⟨n, rfl, by omega, by omega, ?_⟩⟩
  have g2 := g1.next ba s1.ne e2
  have l2 : H2 lf = some (.lst []) := e2 lf _ lfa l1
  refine for_range (fun i σ' H' => ∃ key a5 a6, σ' = [some (.ref a), some (.int many), some (.int high), some (.ref lf), some (.int key), a5, a6] ∧ ∃ (G : Hp) (ps : List Addr) (ts : Tw), ts.length = i ∧ WfF none ts ∧ (∀ p ∈ ts, p.2 ≤ high) ∧ (∀ p ∈ ts, p.1 ≤ key) ∧
    GrA a B H G H' ∧ G lf = none ∧ SrcAt H' a ∧ H' lf = some (.lst (ps.map V.ref)) ∧ PrA K G ps ts) ?_ ?_ ?_
  · exact ⟨_, _, _, rfl, B, [], [], rfl, trivial, (fun p hp => by cases hp), (fun p hp => by cases hp), g2, bl0, s2, l2, .nil⟩
  · rintro i σ' H' hi ⟨key, a5, a6, rfl, G, ps, ts, hl, hw, hh, hk, g, gl, sa, hlf2, hp⟩
    have ga := g.free ba hna
    -- key
    refine ⟨_, rfl, key, 1, rfl, rfl, _, rfl, _, rfl, 10, 20, rfl, rfl, ⟨by decide, by decide, by decide⟩, a, _, rfl, sa, by decide, by decide, fun r H3 r0 r1 e3 s3 => ⟨by show 5 ≤ sizeLine; decide, fun p hp3 => ?_⟩⟩
    have pa : a ≠ p := fun z => by subst z; exact s3.ne hp3
    refine ⟨a, .ref p, _, true, ([0, 0, 1, 6, r] : List Int).map .int, rfl, one_ex upd_same, one_ne pa, s3.mono (Ex.new hp3), .lst (sq_of upd_same) (DpAll.of_ints [0, 0, 1, 6, r]), by show 0 < 5; decide, by show 5 ≤ 1000; decide, fun d v H4 hd hv e4 s4 => ?_⟩
    obtain ⟨j, hj, rfl⟩ := List.mem_map.mp hd
    have hj0 : 0 ≤ j := by
      simp only [List.mem_cons, List.not_mem_nil, or_false] at hj
      omega
    rw [hv.int_of]
    refine ⟨key + 1, j, rfl, rfl, ?_⟩
    have gA := (g.next ga sa.ne e3).next ga s3.ne ((Exa.of (Ex.new hp3)).trans e4)
    have lA : H4 lf = some (.lst (ps.map V.ref)) := e4 lf _ lfa (Ex.new hp3 _ _ (e3 lf _ lfa hlf2))
    -- height
    refine ⟨_, rfl, _, rfl, high, 1, rfl, rfl, by show 8 ≤ sizeLine; decide, fun p2 hp4 => ?_⟩
    have pa2 : a ≠ p2 := fun z => by subst z; exact s4.ne hp4
    refine ⟨a, .ref p2, _, true, ([0, 0, 0, 1, 1, 2, 3, high - 1] : List Int).map .int, rfl, one_ex upd_same, one_ne pa2, s4.mono (Ex.new hp4), .lst (sq_of upd_same) (DpAll.of_ints [0, 0, 0, 1, 1, 2, 3, high - 1]), by show 0 < 8; decide, by show 8 ≤ 1000; decide, fun d v H5 hd hv e5 s5 => ?_⟩
    obtain ⟨u, hu, rfl⟩ := List.mem_map.mp hd
    have hu0 : 0 ≤ u := by
      simp only [List.mem_cons, List.not_mem_nil, or_false] at hu
      omega
    rw [hv.int_of]
    refine ⟨1, u, rfl, rfl, ?_⟩
    have gB := gA.next ga s4.ne ((Exa.of (Ex.new hp4)).trans e5)
    have lB : H5 lf = some (.lst (ps.map V.ref)) := e5 lf _ lfa (Ex.new hp4 _ _ lA)
    have hpl : ps.length = ts.length := Paired.length hp
    -- append
    refine sd_append (K := K) (j := 3) (d := .tuple [.int (key + 1 + j), .int (min (1 + u) high)]) gB.g2 lB gl rfl (d_tup (da_cons (d_var rfl (.int _)) (da_cons (d_cb (da_cons (d_var rfl (.int _)) (da_cons (d_var rfl (.int _)) da_nil)) fun _ _ => rcd_min2) da_nil)) (by show 2 ≤ 100000; decide)) (by rw [List.length_map]; omega) fun y G6 H6 g6 gl6 hl6 hy => ?_
    obtain ⟨b, xs, rfl, hb, hxs⟩ := Dp.tup_of hy
    have hxs2 := DpAll.ints (ns := [key + 1 + j, min (1 + u) high]) hxs
    subst hxs2
    have gC := gB.trans (GrA.of g6) s5.ne
    refine ⟨_, _, _, rfl, G6, ps ++ [b], ts ++ [(key + 1 + j, min (1 + u) high)], by rw [List.length_append, hl]; rfl, wf_snoc (by omega) hw (fun p hp => by have := hk p hp; omega) (fun _ z => nomatch z), (fun p hp => ?_), (fun p hp => ?_), gC.mut gl6 hlf, gl6, ?_, by rw [upd_same, List.map_append]; rfl, ?_⟩
    · rcases List.mem_append.mp hp with hp | hp
      · exact hh p hp
      · rw [List.mem_singleton.mp hp]
        show min (1 + u) high ≤ high
        omega
    · rcases List.mem_append.mp hp with hp | hp
      · have := hk p hp
        omega
      · rw [List.mem_singleton.mp hp]
        exact Int.le_refl _
    · obtain ⟨z0, z1, z2, hz⟩ := s5.mono g6.h12
      exact ⟨z0, z1, z2, by rw [upd_ne lfa.symm]; exact hz⟩
    · exact Paired.snoc (PrA.mono g6.hg hp) hb
  · rintro σ' H' ⟨key, a5, a6, rfl, G, ps, ts, hl, hw, hh, hk, g, gl, sa, hlf2, hp⟩
    refine ⟨_, rfl, lf, ps.map V.ref, rfl, sq_of hlf2, fun T o hT hc hd => ?_⟩
    have eG : Ex G (upd G T (.frz o (.tup (ps.map V.ref)))) := Ex.new (fresh_back g.g2 hT)
    exact q ts T o ps _ _ hw (by omega) hh (g.trans (GrA.of (Gr.new g.g2 hT)) sa.ne) (sa.mono (Ex.new hT)) upd_same hc hd (PrA.mono eG hp)
end
end Tk
end

section
set_option Elab.async false
set_option linter.all false
set_option maxRecDepth 100000
set_option maxHeartbeats 1000000
/-! The law's next keys and links. -/
namespace Tk
open PySem PySem.Spec PyProof.Rows L2 Evl Tb
abbrev s_law_next_key : Stmt := topS 28
abbrev n_law_next_key : List Str := ["_law_towers_here", "_law_key", "_law_level", "_law_one_here", "_law_height"]
theorem sc_law_next_key : FnScope n_law_next_key ["_law_towers_here", "_law_key", "_law_level"] (defScope s_law_next_key) := ⟨rfl, rfl, rfl, by decide +kernel, rfl, by decide +kernel, by decide +kernel⟩

abbrev s_law_links : Stmt := topS 29
abbrev n_law_links : List Str := ["_law_towers_here", "_law_high", "_law_level", "_law_found", "_law_key", "_law_height"]
theorem sc_law_links : FnScope n_law_links ["_law_towers_here", "_law_high"] (defScope s_law_links) := ⟨rfl, rfl, rfl, by decide +kernel, rfl, by decide +kernel, by decide +kernel⟩

/-! ### links told in two ways -/
def lkR (ko : Option Int) (F : Int → Option Int) (n : Nat) : List PyData := (List.range n).map fun (i : Nat) => .tuple [optD ko, .int (1 + (i : Int)), optD (F (1 + (i : Int)))]
def lkAll (n : Nat) (ts : Tw) : List PyData := lkR none (nxt ts none) n ++ (ts.map fun p => lkR (some p.1) (nxt ts (some p.1)) p.2.toNat).flatten
theorem mapFrom_get (f : Int → PyData → PyData) : ∀ (ds : List PyData) (k0 : Int) (i : Nat), (mapFrom k0 f ds)[i]? = (ds[i]?).map (f (k0 + (i : Int)))
  | [], k0, i => by simp [mapFrom]
  | d :: ds, k0, 0 => by simp [mapFrom]
  | d :: ds, k0, i + 1 => by
    show (mapFrom (k0 + 1) f ds)[i]? = (ds[i]?).map (f (k0 + ((i + 1 : Nat) : Int)))
    rw [mapFrom_get f ds (k0 + 1) i]
    congr 2
    omega
theorem lkF_eq (ko : Option Int) {F : Int → Option Int} {fl : List (Option Int)} {n : Nat} (hl : fl.length = n) (h : ∀ i, i < n → fl[i]? = some (F (1 + (i : Int)))) : lkF ko fl = lkR ko F n := by
  apply List.ext_getElem?
  intro i
  unfold lkF lkR
  rw [mapFrom_get, List.getElem?_map, List.getElem?_map]
  by_cases c : i < n
  · rw [h i c, List.getElem?_range c]
    rfl
  · rw [List.getElem?_eq_none (by omega), List.getElem?_eq_none (by rw [List.length_range]; omega)]
    rfl
theorem fol_get {n : Nat} : ∀ {ts : Tw}, (∀ p ∈ ts, p.2.toNat ≤ n) → (∀ p ∈ ts, 1 ≤ p.2) → ∀ i, i < n → (fol n ts)[i]? = some (nxt ts none (1 + (i : Int)))
  | [], _, _, i, hi => by
    rw [fol, List.getElem?_replicate, if_pos hi]
    rfl
  | p :: r, h, h1, i, hi => by
    have hp := h1 p (List.mem_cons_self ..)
    rw [fol, nxt]
    by_cases c : i < p.2.toNat
    · rw [List.getElem?_append_left (by rw [List.length_replicate]; exact c), List.getElem?_replicate, if_pos c, if_pos (by rw [show decide (1 + (i : Int) ≤ p.2) = true from decide_eq_true (by omega)]; rfl)]
    · rw [List.getElem?_append_right (by rw [List.length_replicate]; omega), List.length_replicate, List.getElem?_drop, show p.2.toNat + (i - p.2.toNat) = i by omega, fol_get (fun q hq => h q (List.mem_cons_of_mem _ hq)) (fun q hq => h1 q (List.mem_cons_of_mem _ hq)) i hi,
        if_neg (by rw [show decide (1 + (i : Int) ≤ p.2) = false from decide_eq_false (by omega)]; exact Bool.false_ne_true)]
theorem wf_lt : ∀ {r : Tw} {k : Int}, WfF (some k) r → ∀ x ∈ r, k < x.1
  | [], _, _, x, hx => by cases hx
  | (k', h) :: r, k, hw, x, hx => by
    have h2 : ¬ (k' ≤ k) := of_decide_eq_false hw.2.1
    rcases List.mem_cons.mp hx with e | hx
    · rw [e]
      show k < k'
      omega
    · have := wf_lt hw.2.2 x hx
      omega
theorem nxt_all {k : Int} : ∀ {r : Tw} {l : Int}, (∀ x ∈ r, k < x.1) → nxt r (some k) l = nxt r none l
  | [], _, _ => rfl
  | p :: r, l, h => by
    have hp := h p (List.mem_cons_self ..)
    rw [nxt, nxt, nxt_all fun x hx => h x (List.mem_cons_of_mem _ hx)]
    have e : behindK (some k) p.1 = behindK none p.1 := decide_eq_true hp
    rw [e]
theorem nxt_skip {k : Int} {r : Tw} {l : Int} : ∀ {pre : Tw}, (∀ x ∈ pre, x.1 ≤ k) → nxt (pre ++ r) (some k) l = nxt r (some k) l
  | [], _ => rfl
  | p :: pre, h => by
    have hp := h p (List.mem_cons_self ..)
    have e : behindK (some k) p.1 = false := decide_eq_false (by omega)
    show nxt (p :: (pre ++ r)) (some k) l = _
    rw [nxt, nxt_skip fun x hx => h x (List.mem_cons_of_mem _ hx), e, Bool.and_false, if_neg Bool.false_ne_true]
theorem wf_mid : ∀ {pre r : Tw} {p : Int × Int} {q : Option Int}, WfF q (pre ++ p :: r) → (∀ x ∈ pre, x.1 ≤ p.1) ∧ WfF (some p.1) r
  | [], r, p, q, hw => ⟨(fun x hx => by cases hx), hw.2.2⟩
  | (k, h) :: pre, r, p, q, hw => by
    obtain ⟨h1, h2⟩ := wf_mid (pre := pre) hw.2.2
    refine ⟨fun x hx => ?_, h2⟩
    rcases List.mem_cons.mp hx with e | hx
    · rw [e]
      have := wf_lt hw.2.2 p (List.mem_append_right _ (List.mem_cons_self ..))
      show k ≤ p.1
      omega
    · exact h1 x hx
theorem nxt_mid {pre r : Tw} {p : Int × Int} {q : Option Int} {l : Int} (hw : WfF q (pre ++ p :: r)) : nxt (pre ++ p :: r) (some p.1) l = nxt r none l := by
  obtain ⟨h1, h2⟩ := wf_mid hw
  rw [nxt_skip h1, nxt]
  have e : behindK (some p.1) p.1 = false := decide_eq_false (by omega)
  rw [e, Bool.and_false, if_neg Bool.false_ne_true]
  exact nxt_all (wf_lt h2)
theorem pts_rev {n : Nat} {ts : Tw} (hw : WfF none ts) (h1 : ∀ p ∈ ts, p.2.toNat ≤ n) (h2 : ∀ p ∈ ts, 1 ≤ p.2) : ∀ {r pre : Tw}, ts = pre ++ r → (pts n r).reverse.flatten = (r.map fun p => lkR (some p.1) (nxt ts (some p.1)) p.2.toNat).flatten
  | [], _, _ => rfl
  | p :: r, pre, e => by
    have ih := pts_rev hw h1 h2 (r := r) (pre := pre ++ [p]) (by rw [e, List.append_assoc]; rfl)
    have hr : ∀ q ∈ r, q ∈ ts := fun q hq => by rw [e]; exact List.mem_append_right _ (List.mem_cons_of_mem _ hq)
    have hp := h1 p (by rw [e]; exact List.mem_append_right _ (List.mem_cons_self ..))
    rw [pts, List.reverse_append, List.map_cons, List.flatten_cons, ← ih]
    show lkF (some p.1) ((fol n r).take p.2.toNat) ++ (pts n r).reverse.flatten = _
    congr 1
    have hlen := fol_len n (ts := r) fun q hq => h1 q (hr q hq)
    refine lkF_eq (some p.1) (by rw [List.length_take, hlen]; omega) fun i hi => ?_
    rw [List.getElem?_take, if_pos hi, fol_get (fun q hq => h1 q (hr q hq)) (fun q hq => h2 q (hr q hq)) i (by omega)]
    have hw' := hw
    rw [e] at hw'
    have z := nxt_mid (l := 1 + (i : Int)) hw'
    rw [← e] at z
    rw [z]
theorem lnk_eq {ts : Tw} (hw : WfF none ts) : lnkP (topN ts) ts = lkAll (topN ts) ts := by
  have h2 := wf_pos hw
  unfold lnkP lkAll
  rw [List.reverse_append]
  show lkF none (fol (topN ts) ts) ++ (pts (topN ts) ts).reverse.flatten = _
  rw [pts_rev hw top_le h2 (pre := []) rfl, lkF_eq none (fol_len _ top_le) (fun i hi => fol_get top_le h2 i hi)]
/-! ### the defs -/
def NoY (CX : CXT) : Prop := ∀ X : Cx, Passes CX X E0
theorem noY0 : NoY CX0 := fun _ => pass0
def R_law_next_key (ds : List PyData) (z : PyData) : Prop := ∃ b c ts ko l, ds = [twD b c ts, optD ko, .int l] ∧ z = optD (nxt ts ko l)
def R_law_links (ds : List PyData) (es : List PyData) : Prop := ∃ b c ts n, ds = [twD b c ts, .int (n : Nat)] ∧ WfF none ts ∧ ts.length ≤ 400 ∧ n ≤ 64 ∧ (∀ p ∈ ts, p.2 ≤ 64) ∧ es = lkAll n ts
section
variable {K : PySem.W.Frag} {σ : L2.St} {B : Hp} {te tf tg ta tb : TE} {d : PyData} {E : XK} {b c : Bool} {ts : Tw} {vs : List Nat}
theorem u_law_next_key {ko : Option Int} {l : Int} (h : EvD K te σ B (twD b c ts)) (h2 : EvD K tf σ B (optD ko)) (h3 : EvD K tg σ B (.int l)) : EvD K (tCall (spP K 3 R_law_next_key) [] E (tCons te (tCons tf (tCons tg tNil)))) σ B (optD (nxt ts ko l)) :=
  d_call (da_cons h (da_cons h2 (da_cons h3 da_nil))) (sp_P rfl ⟨b, c, ts, ko, l, rfl, rfl⟩)
/-- [e for i in range(lo, hi)] -/
theorem dl_lcRg {i : Nat} {lo hi : Int} (f : Nat → PyData) (ha : EvD K ta σ B (.int lo)) (hb : EvD K tb σ B (.int hi)) (h0 : -1000000 ≤ lo) (h1 : lo ≤ 1000000) (h2 : -1000000 ≤ hi) (h3 : hi ≤ 1000000) (h4 : (hi - lo).toNat ≤ 40000) (hw : ∀ y, wipe ((wipe σ vs).set i (some y)) vs = wipe σ vs)
    (he : ∀ n, n < (hi - lo).toNat → ∀ G, Ex B G → EvD K te ((wipe σ vs).set i (some (.int (lo + (n : Int))))) G (f n)) :
    EvDL K (tLc (iRng2 (tCons ta (tCons tb tNil))) (gName i) tYes te vs) σ B ((List.range (hi - lo).toNat).map f) := fun H1 x Q q => ha H1 x _ fun v G1 H2 g1 hv => hb.mono g1.hg H2 g1.g2 _ fun u G2 H3 g2 hu => by
  rw [hv.int_of, hu.int_of]
  have big : (1000000 : Int) < 2 ^ 62 := by decide
  refine ⟨lo, hi, rfl, ⟨by omega, by omega, by omega, by omega⟩, fun Dl hD => ?_⟩
  have g12 := g1.trans g2
  have bd : Gr B H1 B H3 := Gr.ex x g12.h12
  refine lc_range (fun n H' => ∃ G ys, G Dl = none ∧ Gr G2 H3 G H' ∧ H' Dl = some (.lst ys) ∧ DpAll K G ys ((List.range n).map f)) ⟨G2, [], fresh_back g2.g2 hD, Gr.mut g2.g2 hD, upd_same, .nil⟩ ?_ ?_
  · rintro n H' hn ⟨G, ys, a1, a2, a3, a4⟩
    refine ⟨hw _, ?_⟩
    have hlen : ys.length ≤ 50000 := by
      rw [a4.length, List.length_map, List.length_range]
      omega
    refine lc_turn hD a1 a2 a3 a4 hlen (some (f n)) et_yes (fun e ee => ?_) fun G' ys' H4 b1 b2 b3 b4 => ⟨G', ys', b1, b2, b3, ?_⟩
    · cases ee
      exact he n hn G (g12.hg.trans a2.hg)
    · rw [List.range_succ, List.map_append]
      exact b4
  · rintro H' ⟨G, ys, a1, a2, a3, a4⟩
    exact q Dl ys G H' a1 (fresh_back g12.h12 hD) (g12.trans a2) a3 a4
end
section
variable {P : Program} {w : World} {K : PySem.W.Frag} {mg : Str → Option Value} {base : Heap} {CX : CXT} {f : Addr} {fd : FuncData}
theorem H_law_next_key (nx : NoX CX) (F : FunD K "_law_next_key" "_law_next_key" (defArgs s_law_next_key) (defBody s_law_next_key) (defScope s_law_next_key) [] [] f fd) (hm : mg "_law_next_key" = some (.ref f)) :
    Has P w K mg base CX "_law_next_key" 1 ["_law_towers_here", "_law_key", "_law_level"] [] (spP K 3 R_law_next_key) := by
  refine has_mk F hm sc_law_next_key (spP_len rfl) (fun _ _ _ _ _ _ us hl => match us, hl with | [_, _, _], _ => rfl) fun cdv A outer s H vs Q E hr h => ?_
  obtain ⟨B, ds, z, x, hl, hd, ⟨b, c, ts, ko, l, rfl, rfl⟩, q⟩ := h
  match vs, hd with
  | [v1, v2, v3], .cons h1 (.cons h2 (.cons h3 .nil)) =>
    refine ⟨_, (pss_cons (ps_for PassesOwn.never rfl (pi_row (pv 0)) (pg_row rfl (pgs_cons (pg_name (i := 3) sc_law_next_key.nd rfl (by first | exact .inl rfl | exact .inr rfl)) (pgs_cons (pg_name (i := 4) sc_law_next_key.nd rfl (by first | exact .inl rfl | exact .inr rfl)) pgs_nil))) (pss_one (ps_if (PW.pt (pw_and (pt_cmpR op_ge (pv 4) (pv 2) (nomark _)) (pw_and1 (PW.pt (pw_or (pt_cmpR op_isN (pv 1) pe_non (nomark _)) (pw_or1 (pt_cmpR op_gt (pv 3) (pv 1) (nomark _)))))))) (pss_one (ps_ret (pv 3))) pss_nil))) (pss_one (ps_ret pe_non))), ?_⟩
    refine qd_forTw x h1 rfl (fun i σ' H' => (∃ a c, σ' = [some v1, some v2, some v3, a, c]) ∧ Ex H H' ∧ nxt ts ko l = nxt (ts.drop i) ko l) ⟨⟨none, none, rfl⟩, Ex.refl H, rfl⟩ (fun i σ' H' _ p => x.trans p.2.1) (fun i y σ' H' hi p => ?_) fun σ' H' p => ?_
    · obtain ⟨⟨a, c, rfl⟩, e3, p⟩ := p
      obtain ⟨h3', h4⟩ := List.getElem?_eq_some_iff.mp hi
      rw [List.drop_eq_getElem_cons h3', h4] at p
      have k1 := t_test (d_op (d_var (σ := [some v1, some v2, some v3, some (.int y.1), some (.int y.2)]) (i := 4) rfl (.int y.2)) (d_var (i := 2) rfl h3) fun _ _ => rd_cmp (g := fun i j => decide (j ≤ i)))
      have k2 : EvT (tOr (tTest (tOp (fun x y H Q => y = .non ∧ Q (.bl (decide (x = .non))) H) (tVar 1) (tC .non))) (tTest (tOp (rI0 fun i j => .bl (decide (j < i))) (tVar 3) (tVar 1)))) [some v1, some v2, some v3, some (.int y.1), some (.int y.2)] B (behindK ko y.1) := by
        cases ko with
        | none => exact et_is (et_or (b := true) (t_test (d_op (d_var rfl h2) d_non fun _ _ => rd_isN)) fun z => Bool.noConfusion z) rfl
        | some k0 => exact et_is (et_or (t_test (d_op (d_var rfl h2) d_non fun _ _ => rd_isN)) fun _ => t_test (d_op (d_var rfl (.int y.1)) (d_var rfl h2) fun _ _ => rd_cmp)) rfl
      have key := et_and k1 fun _ => k2
      cases hc : (decide (l ≤ y.2) && behindK ko y.1) with
      | true =>
        rw [hc] at key
        have p' : nxt ts ko l = some y.1 := by
          rw [p, nxt, if_pos hc]
        refine sd_when (x.trans e3) key (fun _ H4 e4 => ?_) fun z => Bool.noConfusion z
        rw [p'] at q
        exact sd_ret (K := K) ((x.trans e3).trans e4) (d_var rfl (.int y.1)) fun v G H5 g hv => q v G H5 ((Gr.ex x (e3.trans e4)).trans g) hv
      | false =>
        rw [hc] at key
        refine sd_no (x.trans e3) key fun H4 e4 => ⟨⟨_, _, rfl⟩, e3.trans e4, ?_⟩
        rw [p, nxt, if_neg (by rw [hc]; exact Bool.false_ne_true)]
    · obtain ⟨⟨a, c, rfl⟩, e3, p⟩ := p
      rw [List.drop_length] at p
      rw [p] at q
      exact sd_ret (K := K) (x.trans e3) d_non fun v G H5 g hv => q v G H5 ((Gr.ex x e3).trans g) hv
theorem H_law_links (bl : Bl mg) (nx : NoY CX) (G_law_next_key : Has P w K mg base CX "_law_next_key" 1 ["_law_towers_here", "_law_key", "_law_level"] [] (spP K 3 R_law_next_key))
    (F : FunD K "_law_links" "_law_links" (defArgs s_law_links) (defBody s_law_links) (defScope s_law_links) [] [] f fd) (hm : mg "_law_links" = some (.ref f)) :
    Has P w K mg base CX "_law_links" 2 ["_law_towers_here", "_law_high"] [] (spPL K 2 R_law_links) := by
  refine has_mk F hm sc_law_links (spPL_len rfl) (fun _ _ _ _ _ _ us hl => match us, hl with | [_, _], _ => rfl) fun cdv A outer s H vs Q E hr h => ?_
  obtain ⟨B, ds, es, x, hl, hd, ⟨b, c, ts, n, rfl, hw, hn, h64, hh, rfl⟩, q⟩ := h
  match vs, hd with
  | [v1, v2], .cons h1 (.cons h2 .nil) =>
    refine ⟨_, (pss_cons (ps_setLc (i := 3) (own := [("_law_level", 2)]) (g := (gName 2)) (by rfl) sc_law_links.nd rfl rfl (sw_true rfl rfl rfl (by decide +kernel)) (pi_range2 rfl bl.range (pa_cons pe_int (pa_cons (pe_op op_add (pv 1) pe_int) pa_nil))) (blkOk_by (own := [("_law_level", 2)]) (N := n_law_links) (sc := defScope s_law_links) (by decide +kernel)) (fun _ _ _ _ _ => (pg_name (i := 2) sc_law_links.nd rfl (Or.inl rfl) (Or.inr rfl))) (fun _ _ _ _ _ => pts_nil) (fun _ _ _ _ _ => (pe_tup (pa_cons pe_non (pa_cons (pv 2) (pa_cons (pe_has G_law_next_key (hr.mono (by decide)) (by rfl) (pa_cons (pv 0) (pa_cons pe_non (pa_cons (pv 2) pa_nil))) (nx _)) pa_nil)))))) (pss_cons (ps_for PassesOwn.never rfl (pi_row (pv 0)) (pg_row rfl (pgs_cons (pg_name (i := 4) sc_law_links.nd rfl (by first | exact .inl rfl | exact .inr rfl)) (pgs_cons (pg_name (i := 5) sc_law_links.nd rfl (by first | exact .inl rfl | exact .inr rfl)) pgs_nil))) (pss_one (ps_for PassesOwn.never rfl (pi_range2 rfl bl.range (pa_cons pe_int (pa_cons (pe_op op_add (pv 5) pe_int) pa_nil))) (pg_name (i := 2) sc_law_links.nd rfl (by first | exact .inl rfl | exact .inr rfl)) (pss_one (ps_expr (pe_bm PySem.F.plainAttrs_list PySem.F.slot_list_append PySem.F.type_list_append mt_append (pv 3) (pa_cons (pe_tup (pa_cons (pv 4) (pa_cons (pv 2) (pa_cons (pe_has G_law_next_key (hr.mono (by decide)) (by rfl) (pa_cons (pv 0) (pa_cons (pv 4) (pa_cons (pv 2) pa_nil))) (nx _)) pa_nil)))) pa_nil))))))) (pss_one (ps_ret (pv 3))))), ?_⟩
    have hv2 := h2.int_of
    subst hv2
    have en : ((n : Int) + 1 - 1).toNat = n := by omega
    refine qd_asgL (K := K) x (dl_lcRg (fun i => .tuple [optD none, .int (1 + (i : Int)), optD (nxt ts none (1 + (i : Int)))]) d_int (d_op (d_var rfl h2) d_int fun _ _ => rd_int) (by decide) (by decide) (by omega) (by omega) (by omega) (fun _ => rfl) fun i hi G eG => ?_) fun lf xs G1 H1 f0 f1 g1 hf hxs => ?_
    · exact d_tup (da_cons d_non (da_cons (d_var rfl (.int _)) (da_cons (u_law_next_key (ko := none) (d_var rfl (dp_mono eG h1)) d_non (d_var rfl (.int _))) da_nil))) (by show 3 ≤ 100000; decide)
    · rw [en] at hxs
      let acc : Nat → List PyData := fun i => lkR none (nxt ts none) n ++ ((ts.take i).map fun p => lkR (some p.1) (nxt ts (some p.1)) p.2.toNat).flatten
      have acl : ∀ i, i ≤ ts.length → (acc i).length ≤ 64 + i * 64 := fun i hi => by
        show (lkR none (nxt ts none) n ++ _).length ≤ _
        rw [List.length_append]
        have z1 : (lkR none (nxt ts none) n).length = n := by unfold lkR; rw [List.length_map, List.length_range]
        have z2 : ∀ l : Tw, (∀ p ∈ l, p.2 ≤ 64) → ((l.map fun p => lkR (some p.1) (nxt ts (some p.1)) p.2.toNat).flatten).length ≤ l.length * 64 := fun l => by
          induction l with
          | nil => exact fun _ => Nat.le_refl _
          | cons p l ih =>
            intro hp
            have i1 := ih fun q hq => hp q (List.mem_cons_of_mem _ hq)
            have i2 := hp p (List.mem_cons_self ..)
            have i3 : (lkR (some p.1) (nxt ts (some p.1)) p.2.toNat).length = p.2.toNat := by unfold lkR; rw [List.length_map, List.length_range]
            rw [List.map_cons, List.flatten_cons, List.length_append, List.length_cons, i3]
            omega
        have z3 := z2 (ts.take i) fun p hp => hh p (List.mem_of_mem_take hp)
        rw [List.length_take] at z3
        have : min i ts.length = i := by omega
        rw [this] at z3
        omega
      refine qd_forTw (σ := [some v1, some (.int n), none, some (.ref lf), none, none]) (x.trans g1.h12) h1 rfl (fun i σ' H' => (∃ a2 a4 a5, σ' = [some v1, some (.int n), a2, some (.ref lf), a4, a5]) ∧ ∃ G ys, Gr B H G H' ∧ G lf = none ∧ H' lf = some (.lst ys) ∧ DpAll K G ys (acc i)) ?_ ?_ ?_ ?_
      · refine ⟨⟨none, none, none, rfl⟩, G1, xs, g1, f0, hf, ?_⟩
        show DpAll K G1 xs (lkR none (nxt ts none) n ++ [])
        rw [List.append_nil]
        exact hxs
      · rintro i σ' H' _ ⟨_, G, ys, g, _⟩
        exact g.hg.trans g.g2
      · rintro i p σ' H' hi ⟨⟨a2, a4, a5, rfl⟩, G, ys, g, gl, hlf, hys⟩
        obtain ⟨hi1, hi2⟩ := List.getElem?_eq_some_iff.mp hi
        have hp64 := hh p (hi2 ▸ List.getElem_mem hi1)
        have hp1 := wf_pos hw p (hi2 ▸ List.getElem_mem hi1)
        have hac := acl i (by omega)
        have en2 : (p.2 + 1 - 1).toNat = p.2.toNat := by omega
        have big : (1000000 : Int) < 2 ^ 62 := by decide
        refine ⟨.int p.2, rfl, p.2, 1, rfl, rfl, 1, p.2 + 1, rfl, ⟨by decide, by decide, by omega, by omega⟩, ?_⟩
        rw [en2]
        refine for_range (fun j σ' H' => (∃ a2, σ' = [some v1, some (.int n), a2, some (.ref lf), some (.int p.1), some (.int p.2)]) ∧ ∃ G ys, Gr B H G H' ∧ G lf = none ∧ H' lf = some (.lst ys) ∧ DpAll K G ys (acc i ++ lkR (some p.1) (nxt ts (some p.1)) j)) ?_ ?_ ?_
        · refine ⟨⟨_, rfl⟩, G, ys, g, gl, hlf, ?_⟩
          show DpAll K G ys (acc i ++ [])
          rw [List.append_nil]
          exact hys
        · rintro j σ' H' hj ⟨⟨a2, rfl⟩, G, ys, g, gl, hlf, hys⟩
          have hyl : ys.length ≤ 64 + i * 64 + j := by
            have z := hys.length
            rw [List.length_append] at z
            have z2 : (lkR (some p.1) (nxt ts (some p.1)) j).length = j := by unfold lkR; rw [List.length_map, List.length_range]
            omega
          have h1G := dp_mono g.hg h1
          refine sd_append (K := K) (j := 3) (d := .tuple [optD (some p.1), .int (1 + (j : Int)), optD (nxt ts (some p.1) (1 + (j : Int)))]) g.g2 hlf gl rfl (d_tup (da_cons (d_var rfl (.int p.1)) (da_cons (d_var rfl (.int _)) (da_cons (u_law_next_key (ko := some p.1) (d_var rfl h1G) (d_var rfl (.int p.1)) (d_var rfl (.int _))) da_nil))) (by show 3 ≤ 100000; decide)) (by omega) fun y G6 H6 g6 gl6 hl6 hy => ?_
          refine ⟨⟨_, rfl⟩, G6, ys ++ [y], gr_mut (g.trans g6) gl6 f1, gl6, upd_same, ?_⟩
          have e1 : lkR (some p.1) (nxt ts (some p.1)) (j + 1) = lkR (some p.1) (nxt ts (some p.1)) j ++ [.tuple [optD (some p.1), .int (1 + (j : Int)), optD (nxt ts (some p.1) (1 + (j : Int)))]] := by
            unfold lkR
            rw [List.range_succ, List.map_append]
            rfl
          rw [e1, ← List.append_assoc]
          exact (dpa_mono g6.hg hys).append (.one hy)
        · rintro σ' H' ⟨⟨a2, rfl⟩, G, ys, g, gl, hlf, hys⟩
          refine ⟨⟨_, _, _, rfl⟩, G, ys, g, gl, hlf, ?_⟩
          have e2 : acc (i + 1) = acc i ++ lkR (some p.1) (nxt ts (some p.1)) p.2.toNat := by
            show lkR none (nxt ts none) n ++ _ = (lkR none (nxt ts none) n ++ _) ++ _
            rw [List.take_add_one, hi, List.append_assoc, List.map_append, List.flatten_append]
            congr 2
            show (([p].map _).flatten : List PyData) = _
            rw [List.map_singleton, List.flatten_cons, List.flatten_nil, List.append_nil]
          rw [e2]
          exact hys
      · rintro σ' H' ⟨⟨a2, a4, a5, rfl⟩, G, ys, g, gl, hlf, hys⟩
        have e3 : acc ts.length = lkAll n ts := by
          show lkR none (nxt ts none) n ++ ((ts.take ts.length).map _).flatten = _
          rw [List.take_length]
          rfl
        rw [e3] at hys
        exact ⟨_, rfl, q lf ys G H' gl f1 g hlf hys⟩
end
end Tk
end

section
set_option Elab.async false
set_option linter.all false
set_option maxRecDepth 100000
set_option maxHeartbeats 1000000
/-! Data held against data; the law's look at lanes, next keys and heights. -/
namespace Tk
open PySem PySem.Spec PyProof.Rows L2 Evl Tb
abbrev s_law_keys_right : Stmt := topS 30
abbrev n_law_keys_right : List Str := ["_law_towers_here", "_law_places", "_law_high", "_law_known", "_law_level", "_law_place", "_law_key", "_law_height"]
theorem sc_law_keys_right : FnScope n_law_keys_right ["_law_towers_here", "_law_places", "_law_high"] (defScope s_law_keys_right) := ⟨rfl, rfl, rfl, by decide +kernel, rfl, by decide +kernel, by decide +kernel⟩

/-- ints, bools, None, and rows of them, n deep -/
def okD : Nat → PyData → Bool
  | _, .none => true
  | _, .bool _ => true
  | _, .int _ => true
  | n + 1, .list xs => xs.all (okD n)
  | n + 1, .tuple xs => xs.all (okD n)
  | _, _ => false
theorem okD_out : ∀ (n : Nat) (d : PyData), okD n d = true → d.canLay0 = true ∧ d.depth ≤ n ∧ PyData.eqv d d = true := by
  intro n
  induction n with
  | zero =>
    intro d h
    cases d <;> first | (exfalso; exact Bool.noConfusion (show false = true from h)) | (refine ⟨?_, ?_, ?_⟩ <;> simp [PyData.canLay0, PyData.depth, PyData.eqv])
  | succ n ih =>
    have all : ∀ xs : List PyData, xs.all (okD n) = true → PyData.canLayAll0 xs = true ∧ PyData.depthAll xs ≤ n ∧ PyData.eqvAll xs xs = true := fun xs => by
      induction xs with
      | nil => exact fun _ => by simp [PyData.canLayAll0, PyData.depthAll, PyData.eqvAll]
      | cons x xs ihx =>
        intro h
        rw [List.all_cons, Bool.and_eq_true] at h
        obtain ⟨h1, h2, h3⟩ := ih x h.1
        obtain ⟨i1, i2, i3⟩ := ihx h.2
        refine ⟨by simp [PyData.canLayAll0, h1, i1], ?_, by simp [PyData.eqvAll, h3, i3]⟩
        simp only [PyData.depthAll]
        omega
    intro d h
    cases d with
    | none => refine ⟨?_, ?_, ?_⟩ <;> simp [PyData.canLay0, PyData.depth, PyData.eqv]
    | bool b => refine ⟨?_, ?_, ?_⟩ <;> simp [PyData.canLay0, PyData.depth, PyData.eqv]
    | int i => refine ⟨?_, ?_, ?_⟩ <;> simp [PyData.canLay0, PyData.depth, PyData.eqv]
    | str x => exact Bool.noConfusion (show false = true from h)
    | dict x => exact Bool.noConfusion (show false = true from h)
    | list xs =>
      obtain ⟨i1, i2, i3⟩ := all xs h
      refine ⟨by simp [PyData.canLay0, i1], ?_, by simp [PyData.eqv, i3]⟩
      simp only [PyData.depth]
      omega
    | tuple xs =>
      obtain ⟨i1, i2, i3⟩ := all xs h
      refine ⟨by simp [PyData.canLay0, i1], ?_, by simp [PyData.eqv, i3]⟩
      simp only [PyData.depth]
      omega
theorem okD_shaped {n : Nat} {d : PyData} (h : okD n d = true) (hn : n ≤ 64) : SeqAt.shaped d = true := by
  obtain ⟨h1, h2, _⟩ := okD_out n d h
  unfold SeqAt.shaped
  rw [h1, decide_eq_true (by omega)]
  rfl
theorem all_map {α : Type} {n : Nat} {f : α → PyData} {l : List α} (h : ∀ x, okD n (f x) = true) : (l.map f).all (okD n) = true := by
  rw [List.all_eq_true]
  intro d hd
  obtain ⟨x, _, rfl⟩ := List.mem_map.mp hd
  exact h x
theorem okD_opt (n : Nat) : ∀ o : Option Int, okD n (optD o) = true
  | none => by cases n <;> rfl
  | some _ => by cases n <;> rfl
section
variable {K : PySem.W.Frag} {σ : L2.St} {H B : Hp} {d e : PyData} {ta tb te : TE} {ds es : List PyData}
theorem rd_neS (n : Nat) (h : okD n d = true) (hn : n ≤ 64) : RD K (rNeD K) d d H (.bool false) := by
  have z := rd_neD (K := K) (H := H) (okD_shaped h hn) (okD_shaped h hn)
  rw [(okD_out n d h).2.2] at z
  exact z
theorem rd_eqS (n : Nat) (h : okD n d = true) (hn : n ≤ 64) : RD K (rEqD K) d d H (.bool true) := by
  have z := rd_eqD (K := K) (H := H) (okD_shaped h hn) (okD_shaped h hn)
  rw [(okD_out n d h).2.2] at z
  exact z
/-- a list that stands, and a new one behind it -/
theorem dl_catR {j : Nat} {a : Addr} {xs : List V} (hj : σ[j]? = some (some (.ref a))) (hB : B a = some (.lst xs)) (hx : DpAll K B xs ds) (hb : EvDL K tb σ B es) (hl : ds.length + es.length ≤ 100000) : EvDL K (tOp rCat (tVar j) tb) σ B (ds ++ es) := fun H1 x Q q =>
  ⟨_, hj, hb H1 x _ fun p2 ys G3 H3 g30 h30 g3 hp2 hys =>
    ⟨a, p2, xs, ys, rfl, rfl, g3.h12 _ _ (x _ _ hB), hp2, sz_of (by rw [hx.length, hys.length]; exact hl), fun p3 hp3 => q p3 _ G3 _ (fresh_back g3.g2 hp3) (fresh_back g3.h12 hp3) (g3.trans (Gr.mut g3.g2 hp3)) upd_same ((dpa_mono g3.hg hx).append hys)⟩⟩
end
/-! ### dict(towers) -/
def kvT (ts : Tw) : List (Key × V) := ts.map fun p => (.inl p.1, .int p.2)
theorem get_merge : ∀ {ts : Tw} {q : Option Int} {acc : List (Key × V)} (x : Int), WfF q ts → (valV (mergeK acc (kvT ts)) (.inl x)).getD (.int 0) = if x ∈ ts.map (·.1) then .int (hgtOf ts x) else (valV acc (.inl x)).getD (.int 0)
  | [], _, acc, x, _ => by
    rw [if_neg (by simp)]
    rfl
  | p :: r, q, acc, x, hw => by
    have ih := get_merge (ts := r) (acc := putK acc (.inl p.1) (.int p.2)) x hw.2.2
    show (valV (mergeK (putK acc (.inl p.1) (.int p.2)) (kvT r)) (.inl x)).getD (.int 0) = _
    rw [ih, hgtOf, valV_put, List.map_cons]
    by_cases c : p.1 = x
    · subst c
      have hn : p.1 ∉ r.map (·.1) := fun z => by
        obtain ⟨y, hy, e⟩ := List.mem_map.mp z
        have := wf_lt (k := p.1) hw.2.2 y hy
        omega
      rw [if_neg hn, if_pos rfl, if_pos (List.mem_cons_self ..), if_pos rfl]
      rfl
    · rw [if_neg (show ¬ ((.inl x : Key) = .inl p.1) from fun z => c (Sum.inl.inj z).symm), if_neg c]
      by_cases c2 : x ∈ r.map (·.1)
      · rw [if_pos c2, if_pos (List.mem_cons_of_mem _ c2)]
      · rw [if_neg c2, if_neg fun z => (List.mem_cons.mp z).elim (fun e => c e.symm) c2]
theorem hgt_none : ∀ {ts : Tw} {x : Int}, x ∉ ts.map (·.1) → hgtOf ts x = 0
  | [], _, _ => rfl
  | p :: r, x, h => by
    rw [List.map_cons, List.mem_cons, not_or] at h
    rw [hgtOf, if_neg fun e => h.1 e.symm, hgt_none h.2]
theorem get_known {ts : Tw} (hw : WfF none ts) (x : Int) : (valV (mergeK [] (kvT ts)) (.inl x)).getD (.int 0) = .int (hgtOf ts x) := by
  rw [get_merge x hw]
  split
  · rfl
  · rename_i h
    rw [hgt_none h]
    rfl
theorem pr_kv {K : PySem.W.Frag} {H : Hp} : ∀ {ps : List Addr} {ts : Tw}, PrA K H ps ts → Paired (fun p (kv : Key × V) => SqT K H p [kV kv.1, kv.2]) ps (kvT ts)
  | _, _, .nil => .nil
  | _, _, .cons h t => .cons h (pr_kv t)
/-- d.get(x, 0) -/
theorem d_getk {K : PySem.W.Frag} {σ : L2.St} {B : Hp} {i j : Nat} {p : Addr} {kvs : List (Key × V)} {k z : Int} (hi : σ[i]? = some (some (.ref p))) (hj : σ[j]? = some (some (.int k))) (hB : B p = some (.dK kvs)) (hz : (valV kvs (.inl k)).getD (.int 0) = .int z) :
    EvD K (tDGet2 (tVar i) (tVar j) (tC (.int 0))) σ B (.int z) := fun H1 x Q q => ⟨_, hi, p, rfl, .inl ⟨kvs, .inl (x _ _ hB)⟩, _, hj, _, DGet.k (k := .inl k) (x _ _ hB), by
  rw [hz]
  exact q _ B H1 (.refl x) (.int _)⟩
def spKeys (K : PySem.W.Frag) : Sp := fun vs H Q _ => ∃ (B : Hp) (T lp : Addr) (o : Obj) (ps : List Addr) (ts : Tw) (pl : List Int) (n : Nat), vs = [.ref T, .ref lp, .int n] ∧ Ex B H ∧ B T = some (.frz o (.tup (ps.map V.ref))) ∧ o.cls = .type "tuple" ∧ o.dict = none ∧ PrA K B ps ts ∧
  WfF none ts ∧ ts.length ≤ 400 ∧ B lp = some (.lst (pl.map V.int)) ∧ pl.length ≤ 400 ∧ n ≤ 64 ∧ ∀ H', Ex H H' → Q (.bl true) H'
section
variable {P : Program} {w : World} {K : PySem.W.Frag} {mg : Str → Option Value} {base : Heap} {CX : CXT} {f : Addr} {fd : FuncData}
theorem H_keys_right (bl : Bl mg) (nx : NoY CX) (G_lane : Has P w K mg base CX "lane" 5 ["towers", "level"] [] (spPL K 2 R_lane)) (G_next_key : Has P w K mg base CX "next_key" 5 ["towers", "key", "level"] [] (spP K 3 R_next_key))
    (G_height_of : Has P w K mg base CX "height_of" 5 ["towers", "key"] [] (spP K 2 R_height_of)) (G_law_next_key : Has P w K mg base CX "_law_next_key" 1 ["_law_towers_here", "_law_key", "_law_level"] [] (spP K 3 R_law_next_key))
    (F : FunD K "_law_keys_right" "_law_keys_right" (defArgs s_law_keys_right) (defBody s_law_keys_right) (defScope s_law_keys_right) [] [] f fd) (hm : mg "_law_keys_right" = some (.ref f)) :
    Has P w K mg base CX "_law_keys_right" 6 ["_law_towers_here", "_law_places", "_law_high"] [] (spKeys K) := by
  refine has_mk F hm sc_law_keys_right (fun vs H Q E h => by obtain ⟨_, _, _, _, _, _, _, _, rfl, _⟩ := h; rfl) (fun _ _ _ _ _ _ us hl => match us, hl with | [_, _, _], _ => rfl) fun cdv A outer s H vs Q E hr h => ?_
  obtain ⟨B, T, lp, o, ps, ts, pl, n, rfl, x, hT, hc, hd, hp, hw, hn, hlp, hpl, h64, q⟩ := h
  refine ⟨_, (pss_cons (ps_set (i := 3) sc_law_keys_right.nd rfl (by first | exact .inl rfl | exact .inr rfl) (pe_callTy (call_dict_fz rfl) (by rfl) bl.dict bb_dict (pa_cons (pv 0) pa_nil))) (pss_cons (ps_for PassesOwn.never rfl (pi_row (pe_listRg rfl (by rfl) bl.list (prg_2 (by rfl) bl.range pe_int (pe_op op_add (pv 2) pe_int)))) (pg_name (i := 4) sc_law_keys_right.nd rfl (by first | exact .inl rfl | exact .inr rfl)) (pss_cons (ps_if (pt_cmpR (op_neD hr.units) (pe_has G_lane (hr.mono (by decide)) (by rfl) (pa_cons (pv 0) (pa_cons (pv 4) pa_nil)) (nx _)) (pe_lc (own := [("_law_key", 6), ("_law_height", 7)]) (g := (gRow K 2 (gCons (gName 6) (gCons (gName 7) gNil)))) (by rfl) sc_law_keys_right.nd (pi_row (pv 0)) (blkOk_by (own := [("_law_key", 6), ("_law_height", 7)]) (N := n_law_keys_right) (sc := defScope s_law_keys_right) (by decide +kernel)) (fun _ _ _ _ _ => (pg_row rfl (pgs_cons (pg_name (i := 6) sc_law_keys_right.nd rfl (Or.inl rfl) (Or.inr rfl)) (pgs_cons (pg_name (i := 7) sc_law_keys_right.nd rfl (Or.inl rfl) (Or.inr rfl)) pgs_nil rfl) rfl) rfl rfl)) (fun _ _ _ _ _ => (pts_one (pt_cmpR op_ge (pv 7) (pv 4) (nomark _)))) (fun _ _ _ _ _ => (pv 6))) (nomark _)) (pss_one (ps_ret pe_bl)) pss_nil) (pss_one (ps_for PassesOwn.never rfl (pi_row (pe_op op_cat (pv 1) (pe_lst (pa_cons pe_non pa_nil)))) (pg_name (i := 5) sc_law_keys_right.nd rfl (by first | exact .inl rfl | exact .inr rfl)) (pss_one (ps_if (pt_cmpR (op_neD hr.units) (pe_has G_next_key (hr.mono (by decide)) (by rfl) (pa_cons (pv 0) (pa_cons (pv 5) (pa_cons (pv 4) pa_nil))) (nx _)) (pe_has G_law_next_key (hr.mono (by decide)) (by rfl) (pa_cons (pv 0) (pa_cons (pv 5) (pa_cons (pv 4) pa_nil))) (nx _)) (nomark _)) (pss_one (ps_ret pe_bl)) pss_nil)))))) (pss_one (ps_ret (pe_cmpR (op_eqD hr.units) (pe_lc (own := [("_law_place", 5)]) (g := (gName 5)) (by rfl) sc_law_keys_right.nd (pi_row (pv 1)) (blkOk_by (own := [("_law_place", 5)]) (N := n_law_keys_right) (sc := defScope s_law_keys_right) (by decide +kernel)) (fun _ _ _ _ _ => (pg_name (i := 5) sc_law_keys_right.nd rfl (Or.inl rfl) (Or.inr rfl))) (fun _ _ _ _ _ => (pts_one (pt_cmpR op_ne (pe_has G_height_of (hr.mono (by decide)) (by rfl) (pa_cons (pv 0) (pa_cons (pv 5) pa_nil)) (nx _)) (pe_dget2 (hu_of hr) (pv 3) (pv 5) pe_int ⟨rfl, rfl, rfl, rfl⟩) (nomark _)))) (fun _ _ _ _ _ => (pv 5))) (pe_lst pa_nil) (nomark _)))))), ?_⟩
  refine ⟨_, rfl, T, o, ps, kvT ts, rfl, x _ _ hT, hc, hd, pr_kv (PrA.mono x hp), fun kn hkn => ?_⟩
  have g0 := Gr.new (o := .dK (mergeK [] (kvT ts))) x hkn
  have kn0 := fresh_back x hkn
  have hkB : (upd B kn (.dK (mergeK [] (kvT ts)))) kn = some (.dK (mergeK [] (kvT ts))) := upd_same
  have eB : Ex B (upd B kn (.dK (mergeK [] (kvT ts)))) := Ex.new kn0
  generalize upd B kn (.dK (mergeK [] (kvT ts))) = B1 at *
  have x1 := g0.g2
  have hTd : Dp K B1 (.ref T) (twD false false ts) := .tup (.inl (.inr ⟨o, eB _ _ hT⟩)) (PrA.dp (PrA.mono eB hp))
  have hlp1 := eB _ _ hlp
  have hnd : Dp K B1 (.int n) (.int n) := .int _
  have eQ : ∀ H', Ex (upd H kn (.dK (mergeK [] (kvT ts)))) H' → Ex H H' := fun H' e => (Ex.new hkn).trans e
  generalize upd H kn (.dK (mergeK [] (kvT ts))) = Hk at *
  refine qd_forN (K := K) (b := true) x1 (dl_d (dl_listRg (i := 1) (j := (n : Int) + 3) d_int (d_op (d_var rfl hnd) d_int fun _ _ => rd_int) (by decide) (by omega) (by decide) (by omega))) fun v G H1 g hv => ?_
  have hTG := dp_mono g.hg hTd
  refine ⟨fun i σ' H' => (∃ a4 a5 a6 a7, σ' = [some (.ref T), some (.ref lp), some (.int n), some (.ref kn), a4, a5, a6, a7]) ∧ Ex H1 H', ⟨⟨none, none, none, none, rfl⟩, Ex.refl H1⟩, fun i σ' H' _ p => g.g2.trans p.2, ?_, ?_⟩
  · rintro i d y σ' H' hi hy ⟨⟨a4, a5, a6, a7, rfl⟩, e⟩
    rw [List.getElem?_map] at hi
    obtain ⟨m, hm1, rfl⟩ := Option.map_eq_some_iff.mp hi
    rw [hy.int_of]
    have l1 : (1 : Int) ≤ 1 + (m : Int) := by omega
    generalize 1 + (m : Int) = l at l1
    have xG := g.g2.trans e
    refine qd_no xG (t_test (d_op (dl_d (u_lane (d_var rfl hTG) (d_var rfl (.int l)) hw (by omega) l1)) (dl_d (lc_tw (c := false) (laneF l) (d_var rfl hTG) (by omega) (fun _ _ => rfl) (fun p _ G2 e2 => ?_) fun p _ z hz G2 e2 => ?_)) fun _ _ => rd_neS 1 ?_ (by decide))) fun H2 e2 => ?_
    · have k : EvT (tTest (tOp (rI0 fun i j => .bl (decide (j ≤ i))) (tVar 7) (tVar 4))) [some (.ref T), some (.ref lp), some (.int n), some (.ref kn), some (.int l), a5, some (.int p.1), some (.int p.2)] G2 (decide (l ≤ p.2)) := t_test (K := K) (d_op (d_var rfl (.int p.2)) (d_var rfl (.int l)) fun _ _ => rd_cmp)
      refine et_is k ?_
      unfold laneF
      by_cases c : l ≤ p.2
      · rw [if_pos c]
        exact decide_eq_true c
      · rw [if_neg c]
        exact decide_eq_false c
    · have ez : z = .int p.1 := by
        unfold laneF at hz
        split at hz
        · cases hz
          rfl
        · cases hz
      rw [ez]
      exact d_var rfl (.int p.1)
    · show (ts.filterMap (laneF l)).all (okD 0) = true
      rw [List.all_eq_true]
      intro d hd
      obtain ⟨p, _, hp⟩ := List.mem_filterMap.mp hd
      unfold laneF at hp
      split at hp
      · cases hp
        rfl
      · cases hp
    · refine sd_forN (K := K) (b := true) (ds := (pl.map some ++ [none]).map optD) (xG.trans e2) (dl_d ?_) fun v3 G3 H3 g3 hv3 => ?_
      · rw [List.map_append, List.map_map]
        exact dl_catR rfl (g.hg _ _ hlp1) (DpAll.of_ints pl) (dl_lst (da_cons d_non da_nil) (by show 1 ≤ 100000; decide)) (by rw [List.length_map]; show pl.length + 1 ≤ 100000; omega)
      · refine ⟨fun i σ' H' => (∃ a5 a6 a7, σ' = [some (.ref T), some (.ref lp), some (.int n), some (.ref kn), some (.int l), a5, a6, a7]) ∧ Ex H3 H', ⟨⟨_, _, _, rfl⟩, Ex.refl H3⟩, fun i σ' H' _ p => g3.g2.trans p.2, ?_, ?_⟩
        · rintro i d y σ' H' hi hy ⟨⟨a5, a6, a7, rfl⟩, e⟩
          rw [List.getElem?_map] at hi
          obtain ⟨ko, _, rfl⟩ := Option.map_eq_some_iff.mp hi
          have hTG3 := dp_mono g3.hg hTG
          exact sd_no (g3.g2.trans e) (t_test (d_op (u_next_key (ko := ko) (l := l) (d_var rfl hTG3) (d_var rfl hy) (d_var rfl (.int l)) hw l1) (u_law_next_key (ko := ko) (l := l) (d_var rfl hTG3) (d_var rfl hy) (d_var rfl (.int l))) fun _ _ => rd_neS 0 (okD_opt 0 _) (by decide))) fun H5 e5 => ⟨⟨_, _, _, rfl⟩, e.trans e5⟩
        · rintro σ' H' ⟨⟨a5, a6, a7, rfl⟩, e5⟩
          exact ⟨⟨_, _, _, _, rfl⟩, (e.trans (e2.trans g3.h12)).trans e5⟩
  · rintro σ' H' ⟨⟨a4, a5, a6, a7, rfl⟩, e⟩
    have hkG := g.hg _ _ hkB
    refine sd_ret (K := K) (d := .bool true) (g.g2.trans e) (d_op (dl_d (dl_lc (b := true) (ds := pl.map .int) (fun _ => none) (d_var rfl (.lst (sq_of (g.hg _ _ hlp1)) (DpAll.of_ints pl))) (by rw [List.length_map]; omega) fun d hd y G2 H5 e2 e5 hy Q2 k => ?_)) (dl_d (dl_lst da_nil (Nat.zero_le _))) fun G2 _ => ?_) fun v2 G5 H5 g5 hv5 => ?_
    · obtain ⟨z, _, rfl⟩ := List.mem_map.mp hd
      rw [hy.int_of]
      exact k _ rfl (et_is (t_test (K := K) (d_op (u_height_of (k := z) (d_var rfl (dp_mono e2 hTG)) (d_var rfl (.int z)) hw) (d_getk (z := hgtOf ts z) rfl rfl (e2 _ _ hkG) (get_known hw z)) fun _ _ => rd_ne rfl)) (by show (!decide (hgtOf ts z = hgtOf ts z)) = false; rw [decide_eq_true rfl]; rfl)) fun e he => by cases he
    · have ef : (pl.map PyData.int).filterMap (fun _ => (none : Option PyData)) = [] := by
        rw [List.filterMap_eq_nil_iff]
        exact fun _ _ => rfl
      rw [ef]
      exact rd_eqS 1 rfl (by decide)
    · rw [hv5.bl_of]
      exact q _ (eQ _ (g.h12.trans (e.trans g5.h12)))
end
end Tk
end

section
set_option Elab.async false
set_option linter.all false
set_option maxRecDepth 100000
set_option maxHeartbeats 1000000
/-! The law itself. -/
namespace Tk
open PySem PySem.Spec PyProof.Rows L2 Evl Tb
abbrev s_law : Stmt := topS 31
abbrev n_law : List Str := ["_law_script", "_law_cell", "_law_source", "_law_towers_here", "_law_high", "_law_key", "_law_height", "_law_lists", "_law_places", "_law_k", "_law_pair"]
theorem sc_law : FnScope n_law ["_law_script"] (defScope s_law) := ⟨rfl, rfl, rfl, by decide +kernel, rfl, by decide +kernel, by decide +kernel⟩

theorem call_list_K {X : Cx} {K : PySem.W.Frag} (h : X.K = K) : CallR X (.type "list") fun xs H Q => ∃ p ys, xs = [V.ref p] ∧ (SqL K H p ys ∨ SqT K H p ys) ∧ ∀ l, H l = none → Q (.ref l) (upd H l (.lst ys)) := by
  subst h
  exact call_list_of
def toL : PyData → PyData
  | .tuple xs => .list xs
  | d => d
theorem foldl_maxOf {ts : Tw} (h : ∀ p ∈ ts, 1 ≤ p.2) : (ts.map (·.2)).foldl max 0 = maxOf 0 (ts.map (·.2)) := by
  cases ts with
  | nil => rfl
  | cons p r =>
    have hp := h p (List.mem_cons_self ..)
    show (r.map (·.2)).foldl max (max 0 p.2) = (r.map (·.2)).foldl max p.2
    rw [show max 0 p.2 = p.2 by omega]
theorem ex_add {G H : Hp} {l : Addr} {o : HO} (e : Ex G H) (h : H l = some o) : Ex (upd G l o) H := fun b u q => by
  by_cases c : b = l
  · subst c
    rw [upd_same] at q
    cases q
    exact h
  · rw [upd_ne c] at q
    exact e b u q
theorem eqv_empty : ∀ ts : Tw, PyData.eqv (twD false false ts) (.tuple []) = decide (ts = [])
  | [] => by simp [twD, rows, PyData.eqv, PyData.eqvAll]
  | p :: r => by simp [twD, rows, PyData.eqv, PyData.eqvAll]
theorem ok_pr (c : Bool) (p : Int × Int) : okD 1 (prD c p) = true := by cases c <;> rfl
theorem ok_tw (b c : Bool) (ts : Tw) : okD 2 (twD b c ts) = true := by
  cases b
  · exact all_map (ok_pr c)
  · exact all_map (ok_pr c)
theorem ok_lk (n : Nat) (ts : Tw) : okD 2 (.list (lkAll n ts)) = true := by
  show (lkAll n ts).all (okD 1) = true
  have one : ∀ ko F n, (lkR ko F n).all (okD 1) = true := fun ko F n => all_map fun i => by
    show ([optD ko, .int (1 + (i : Int)), optD (F (1 + (i : Int)))] : List PyData).all (okD 0) = true
    rw [List.all_cons, List.all_cons, List.all_cons, okD_opt, okD_opt]
    rfl
  unfold lkAll
  rw [List.all_append, one, List.all_eq_true.mpr]
  · rfl
  · intro d hd
    obtain ⟨l, hl, hd⟩ := List.mem_flatten.mp hd
    obtain ⟨p, _, rfl⟩ := List.mem_map.mp hl
    exact List.all_eq_true.mp (one _ _ _) d hd
theorem qd_forRg1 {K : PySem.W.Frag} {σ : L2.St} {B H : Hp} {D : Ends} {tu tz : TS} {g : TG} {ta : TA} {m : Int} (x : Ex B H) (h : EvDA K ta σ B [.int m]) (b1 : -1000000 ≤ m) (b2 : m ≤ 1000000)
    (k : ∀ G H1, Gr B H G H1 → ∃ Pv : Nat → L2.St → Hp → Prop, Pv 0 σ H1 ∧ (∀ i σ' H', i < m.toNat → Pv i σ' H' → g (.int (0 + (i : Int))) σ' H' fun σ2 H2 => tu { D with nx := Pv (i + 1), ct := Pv (i + 1), bk := tz D } σ2 H2) ∧ ∀ σ' H', Pv m.toNat σ' H' → tz D σ' H') :
    tSeq (tFor (iRng1 ta) g tu) tz D σ H := h H x _ fun vm G H1 gg hv => by
  have e := DpAll.ints (ns := [m]) hv
  subst e
  obtain ⟨Pv, h0, hs, hn⟩ := k G H1 gg
  have big : (1000000 : Int) < 2 ^ 62 := by decide
  exact ⟨m, rfl, by omega, by omega, for_range (D := { D with nx := tz D }) Pv h0 hs hn⟩
def spLaw (K : PySem.W.Frag) : Sp := fun vs H Q _ => ∃ (a : Addr) (ns : List Int), vs = [.ref a] ∧ SqL K H a (ns.map V.int) ∧ ns.length ≤ 63 ∧ ∀ H', Q (.bl true) H'
section
variable {P : Program} {w : World} {K : PySem.W.Frag} {mg : Str → Option Value} {base : Heap} {CX : CXT} {f : Addr} {fd : FuncData}
theorem H_law (bl : Bl mg) (nx : NoY CX)
    (G_law_source_of : Has P w K mg base CX "_law_source_of" 1 ["_law_cell"] [] spSourceOf) (G_law_towers : Has P w K mg base CX "_law_towers" 3 ["_law_source", "_law_many", "_law_high"] [] (spTowers K)) (G_law_one : Has P w K mg base CX "_law_one" 2 ["_law_source", "_law_some"] [] (spOne K))
    (G_top : Has P w K mg base CX "top" 6 ["towers"] [] (spP K 1 R_top)) (G_heights : Has P w K mg base CX "heights" 5 ["towers"] [] (spP K 1 R_heights)) (G_is_towers : Has P w K mg base CX "is_towers" 4 ["thing"] [] (spP K 1 R_is_towers))
    (G_law_keys_right : Has P w K mg base CX "_law_keys_right" 6 ["_law_towers_here", "_law_places", "_law_high"] [] (spKeys K)) (G_links : Has P w K mg base CX "links" 7 ["towers"] [] (spPL K 1 R_links))
    (G_law_links : Has P w K mg base CX "_law_links" 2 ["_law_towers_here", "_law_high"] [] (spPL K 2 R_law_links)) (G_lane : Has P w K mg base CX "lane" 5 ["towers", "level"] [] (spPL K 2 R_lane))
    (F : FunD K "law" "law" (defArgs s_law) (defBody s_law) (defScope s_law) [] [] f fd) :
    FnOk P w K mg base CX 8 f fd ["_law_script"] (spLaw K) := by
  refine F.ok sc_law (fun vs H Q E h => by obtain ⟨a, ns, rfl, _⟩ := h; rfl) fun cdv A outer s H vs Q E hr h => ?_
  obtain ⟨a, ns, rfl, hS, hlen, q⟩ := h
  suffices z : ∃ t, PSs (cxOf CX P w K mg base n_law "law" (defScope s_law) f cdv A outer s H E).nox (defBody s_law) t ∧ t { nx := fun _ H' => Q .non H', rt := Q } (start n_law [.ref a]) H by
    obtain ⟨t, h1, h2⟩ := z
    exact ⟨t, h1.nox, h2⟩
  refine ⟨_, (pss_cons (ps_for PassesOwn.never rfl (pi_row (pe_op op_cat (pe_slice sl_list (pv 0) po_none (po_some pe_int)) (pe_lst (pa_cons pe_int pa_nil)))) (pg_name (i := 1) sc_law.nd rfl (by first | exact .inl rfl | exact .inr rfl)) (pss_cons (ps_set (i := 2) sc_law.nd rfl (by first | exact .inl rfl | exact .inr rfl) (pe_has G_law_source_of (hr.mono (by decide)) (by rfl) (pa_cons (pv 1) pa_nil) (nx _))) (pss_cons (ps_set (i := 3) sc_law.nd rfl (by first | exact .inl rfl | exact .inr rfl) (pe_has G_law_towers (hr.mono (by decide)) (by rfl) (pa_cons (pv 2) (pa_cons pe_int (pa_cons pe_int pa_nil))) (nx _))) (pss_cons (ps_set (i := 4) sc_law.nd rfl (by first | exact .inl rfl | exact .inr rfl) pe_int) (pss_cons (ps_for PassesOwn.never rfl (pi_row (pv 3)) (pg_row rfl (pgs_cons (pg_name (i := 5) sc_law.nd rfl (by first | exact .inl rfl | exact .inr rfl)) (pgs_cons (pg_name (i := 6) sc_law.nd rfl (by first | exact .inl rfl | exact .inr rfl)) pgs_nil))) (pss_one (ps_set (i := 4) sc_law.nd rfl (by first | exact .inl rfl | exact .inr rfl) (pe_callB (call_max2 rfl) (by rfl) bl.max bb_max (pa_cons (pv 4) (pa_cons (pv 6) pa_nil)))))) (pss_cons (ps_setLc (i := 7) (own := [("_law_pair", 10)]) (g := (gName 10)) (by rfl) sc_law.nd rfl rfl (sw_true rfl rfl rfl (by decide +kernel)) (pi_row (pv 3)) (blkOk_by (own := [("_law_pair", 10)]) (N := n_law) (sc := defScope s_law) (by decide +kernel)) (fun _ _ _ _ _ => (pg_name (i := 10) sc_law.nd rfl (Or.inl rfl) (Or.inr rfl))) (fun _ _ _ _ _ => pts_nil) (fun _ _ _ _ _ => (pe_callTy (call_list_K (K := K) rfl) (by rfl) bl.list bb_list (pa_cons (pv 10) pa_nil)))) (pss_cons (ps_if (PW.pt (pw_or (pt_cmpR (op_neD hr.units) (pe_has G_top (hr.mono (by decide)) (by rfl) (pa_cons (pv 3) pa_nil) (nx _)) (pv 4) (nomark _)) (pw_or1 (pt_cmpR (op_neD hr.units) (pe_has G_heights (hr.mono (by decide)) (by rfl) (pa_cons (pv 3) pa_nil) (nx _)) (pe_callTy call_tuple_of (by rfl) bl.tuple bb_tuple (pa_cons (pe_lc (own := [("_law_key", 5), ("_law_height", 6)]) (g := (gRow K 2 (gCons (gName 5) (gCons (gName 6) gNil)))) (by rfl) sc_law.nd (pi_row (pv 3)) (blkOk_by (own := [("_law_key", 5), ("_law_height", 6)]) (N := n_law) (sc := defScope s_law) (by decide +kernel)) (fun _ _ _ _ _ => (pg_row rfl (pgs_cons (pg_name (i := 5) sc_law.nd rfl (Or.inl rfl) (Or.inr rfl)) (pgs_cons (pg_name (i := 6) sc_law.nd rfl (Or.inl rfl) (Or.inr rfl)) pgs_nil rfl) rfl) rfl rfl)) (fun _ _ _ _ _ => pts_nil) (fun _ _ _ _ _ => (pv 6))) pa_nil)) (nomark _))))) (pss_one (ps_ret pe_bl)) pss_nil) (pss_cons (ps_if (PW.pt (pw_or (pt_cmpR op_notBl (pe_has G_is_towers (hr.mono (by decide)) (by rfl) (pa_cons (pv 3) pa_nil) (nx _)) pe_bl (nomark _)) (pw_or (pt_cmpR op_notBl (pe_has G_is_towers (hr.mono (by decide)) (by rfl) (pa_cons (pv 7) pa_nil) (nx _)) pe_bl (nomark _)) (pw_or1 (pt_cmpR (op_neD hr.units) (pe_has G_top (hr.mono (by decide)) (by rfl) (pa_cons (pv 7) pa_nil) (nx _)) (pv 4) (nomark _)))))) (pss_one (ps_ret pe_bl)) pss_nil) (pss_cons (ps_set (i := 8) sc_law.nd rfl (by first | exact .inl rfl | exact .inr rfl) (pe_lst (pa_cons pe_int pa_nil))) (pss_cons (ps_for PassesOwn.never rfl (pi_range1 rfl bl.range (pa_cons (pe_op op_mul pe_int (pe_callTy call_int1 (by rfl) bl.int bb_int (pa_cons (pe_cmpR (op_neD hr.units) (pv 3) (pe_tup pa_nil) (nomark _)) pa_nil))) pa_nil)) (pg_name (i := 9) sc_law.nd rfl (by first | exact .inl rfl | exact .inr rfl)) (pss_one (ps_expr (pe_bm PySem.F.plainAttrs_list PySem.F.slot_list_append PySem.F.type_list_append mt_append (pv 8) (pa_cons (pe_op op_add (pe_ix ix_row (pe_has G_law_one (hr.mono (by decide)) (by rfl) (pa_cons (pv 2) (pa_cons (pv 3) pa_nil)) (nx _)) pe_int (fun _ _ => rfl)) (pe_has G_law_one (hr.mono (by decide)) (by rfl) (pa_cons (pv 2) (pa_cons (pe_lst (pa_cons pe_int (pa_cons pe_int (pa_cons pe_int (pa_cons (pe_un un_neg pe_int) pa_nil))))) pa_nil)) (nx _))) pa_nil))))) (pss_cons (ps_if (PW.pt (pw_or (pt_not (pt_val (pe_has G_law_keys_right (hr.mono (by decide)) (by rfl) (pa_cons (pv 3) (pa_cons (pv 8) (pa_cons (pv 4) pa_nil))) (nx _)))) (pw_or1 (pt_cmpR (op_neD hr.units) (pe_has G_links (hr.mono (by decide)) (by rfl) (pa_cons (pv 7) pa_nil) (nx _)) (pe_has G_law_links (hr.mono (by decide)) (by rfl) (pa_cons (pv 3) (pa_cons (pv 4) pa_nil)) (nx _)) (nomark _))))) (pss_one (ps_ret pe_bl)) pss_nil) (pss_cons (ps_expr (pe_bm0 PySem.F.plainAttrs_list PySem.F.slot_list_clear PySem.F.type_list_clear mt_clear (pe_has G_links (hr.mono (by decide)) (by rfl) (pa_cons (pv 3) pa_nil) (nx _)))) (pss_cons (ps_expr (pe_bm PySem.F.plainAttrs_list PySem.F.slot_list_append PySem.F.type_list_append mt_append (pe_has G_lane (hr.mono (by decide)) (by rfl) (pa_cons (pv 3) (pa_cons pe_int pa_nil)) (nx _)) (pa_cons pe_non pa_nil))) (pss_cons (ps_if (PW.pt (pw_or (pt_cmpR (op_neD hr.units) (pe_has G_links (hr.mono (by decide)) (by rfl) (pa_cons (pv 3) pa_nil) (nx _)) (pe_has G_law_links (hr.mono (by decide)) (by rfl) (pa_cons (pv 3) (pa_cons (pv 4) pa_nil)) (nx _)) (nomark _)) (pw_or1 (pt_cmpR (op_neD hr.units) (pe_has G_lane (hr.mono (by decide)) (by rfl) (pa_cons (pv 7) (pa_cons pe_int pa_nil)) (nx _)) (pe_lc (own := [("_law_key", 5), ("_law_height", 6)]) (g := (gRow K 2 (gCons (gName 5) (gCons (gName 6) gNil)))) (by rfl) sc_law.nd (pi_row (pv 3)) (blkOk_by (own := [("_law_key", 5), ("_law_height", 6)]) (N := n_law) (sc := defScope s_law) (by decide +kernel)) (fun _ _ _ _ _ => (pg_row rfl (pgs_cons (pg_name (i := 5) sc_law.nd rfl (Or.inl rfl) (Or.inr rfl)) (pgs_cons (pg_name (i := 6) sc_law.nd rfl (Or.inl rfl) (Or.inr rfl)) pgs_nil rfl) rfl) rfl rfl)) (fun _ _ _ _ _ => pts_nil) (fun _ _ _ _ _ => (pv 5))) (nomark _))))) (pss_one (ps_ret pe_bl)) pss_nil) (pss_one (ps_if (pt_cmpR (op_neD hr.units) (pv 7) (pe_lc (own := [("_law_pair", 10)]) (g := (gName 10)) (by rfl) sc_law.nd (pi_row (pv 3)) (blkOk_by (own := [("_law_pair", 10)]) (N := n_law) (sc := defScope s_law) (by decide +kernel)) (fun _ _ _ _ _ => (pg_name (i := 10) sc_law.nd rfl (Or.inl rfl) (Or.inr rfl))) (fun _ _ _ _ _ => pts_nil) (fun _ _ _ _ _ => (pe_callTy (call_list_K (K := K) rfl) (by rfl) bl.list bb_list (pa_cons (pv 10) pa_nil)))) (nomark _)) (pss_one (ps_ret pe_bl)) pss_nil)))))))))))))))) (pss_one (ps_ret (pe_and (pe_cmpR (op_eqD hr.units) (pe_has G_top (hr.mono (by decide)) (by rfl) (pa_cons (pe_tup pa_nil) pa_nil) (nx _)) pe_int (nomark _)) (pe_and (pe_cmpR (op_eqD hr.units) (pe_has G_heights (hr.mono (by decide)) (by rfl) (pa_cons (pe_lst pa_nil) pa_nil) (nx _)) (pe_tup pa_nil) (nomark _)) (pe_and (pe_cmpR (op_eqD hr.units) (pe_has G_links (hr.mono (by decide)) (by rfl) (pa_cons (pe_tup pa_nil) pa_nil) (nx _)) (pe_lst pa_nil) (nomark _)) (pe_and (pe_cmpR (op_eqD hr.units) (pe_has G_lane (hr.mono (by decide)) (by rfl) (pa_cons (pe_tup pa_nil) (pa_cons pe_int pa_nil)) (nx _)) (pe_lst pa_nil) (nomark _)) (pe_one (pe_cmpR op_isBl (pe_has G_is_towers (hr.mono (by decide)) (by rfl) (pa_cons (pe_tup pa_nil) pa_nil) (nx _)) pe_bl (nomark _)))))))))), ?_⟩
  have hD : Dp K H (.ref a) (.list (ns.map .int)) := .lst hS (DpAll.of_ints ns)
  refine qd_forN (K := K) (b := true) (ds := (ns.take 6 ++ [0]).map .int) (Ex.refl H) (dl_d ?_) fun v G H1 g hv => ?_
  · rw [List.map_append, List.map_take]
    refine dl_cat (dl_first (n := 6) (d_var rfl hD) d_int) (dl_lst (da_cons d_int da_nil) (by show 1 ≤ 100000; decide)) ?_
    rw [List.length_take, List.length_map]
    show min 6 ns.length + 1 ≤ 100000
    omega
  refine ⟨fun i σ' H' => (∃ r1 r2 r3 r4 r5 r6 r7 r8 r9 r10, σ' = [some (.ref a), r1, r2, r3, r4, r5, r6, r7, r8, r9, r10]) ∧ Ex G H', ⟨⟨_, _, _, _, _, _, _, _, _, _, rfl⟩, g.g2⟩, fun i σ' H' _ p => p.2, ?_, ?_⟩
  · rintro i d y σ' H2 hi hy ⟨⟨r1, r2, r3, r4, r5, r6, r7, r8, r9, r10, rfl⟩, x2⟩
    rw [List.getElem?_map] at hi
    obtain ⟨c, _, rfl⟩ := Option.map_eq_some_iff.mp hi
    rw [hy.int_of]
    -- source, towers
    refine ⟨_, rfl, c, rfl, fun p H3 hp e3 _ s3 => ?_⟩
    have pG : G p = none := fresh_back x2 hp
    refine ⟨_, rfl, p, 30, 9, G, rfl, x2.trans e3, pG, s3, by decide, by decide, by decide, by decide, fun ts T o ps G4 H4 hw hn hh gA s4 hT hc hd hpr => ?_⟩
    have p4 : G4 p = none := gA.free pG s3.ne
    have hTd : Dp K G4 (.ref T) (twD false false ts) := .tup (.inl (.inr ⟨o, hT⟩)) hpr.dp
    have h1p := wf_pos hw
    have hl1 : ts.length ≤ 30 := by omega
    have hmx := maxOf_nn h1p
    have hmx9 : maxOf 0 (ts.map (·.2)) ≤ 9 := maxOf_lt (by decide) fun y hy => by
      obtain ⟨z, hz, rfl⟩ := List.mem_map.mp hy
      exact hh z hz
    have hM : maxOf 0 (ts.map (·.2)) = ((topN ts : Nat) : Int) := by unfold topN; omega
    have hM9 : topN ts ≤ 9 := by omega
    have xG : Ex G G4 := gA.hg
    have x4 := gA.g2
    have tpD : ∀ (te : TE) (σ : L2.St) (b c : Bool) (B : Hp), EvD K te σ B (twD b c ts) → EvD K (tCall (spP K 1 R_top) [] E0 (tCons te tNil)) σ B (.int (topN ts : Nat)) := fun te σ b c B h => hM ▸ u_top (E := E0) h hw (by omega)
    -- high
    refine qd_forTw (c := false) (b := false) (σ := [some (.ref a), some (.int c), some (.ref p), some (.ref T), some (.int 0), r5, r6, r7, r8, r9, r10]) x4 hTd rfl (fun i σ' H' => (∃ a5 a6, σ' = [some (.ref a), some (.int c), some (.ref p), some (.ref T), some (.int (((ts.take i).map (·.2)).foldl max 0)), a5, a6, r7, r8, r9, r10]) ∧ Ex H4 H') ⟨⟨_, _, rfl⟩, Ex.refl H4⟩ (fun i σ' H' _ p => x4.trans p.2) ?_ ?_
    · rintro i y σ' H' hi ⟨⟨a5, a6, rfl⟩, e⟩
      refine sd_asg (K := K) (x4.trans e) (d_cb (da_cons (d_var rfl (.int _)) (da_cons (d_var rfl (.int _)) da_nil)) fun _ _ => rcd_max2) fun v G5 H5 g5 hv => ⟨⟨some (.int y.1), some (.int y.2), ?_⟩, e.trans g5.h12⟩
      rw [hv.int_of, List.take_add_one, hi, List.map_append, List.foldl_append]
      rfl
    rintro σ' H5 ⟨⟨a5, a6, rfl⟩, e5⟩
    rw [List.take_length, foldl_maxOf h1p, hM]
    have x5 := x4.trans e5
    have s5 := s4.mono e5
    -- lists
    refine qd_asg (K := K) (d := twD true true ts) x5 (d_is (dl_d (dl_lc (b := false) (ds := ts.map (prD false)) (fun d => some (toL d)) (d_var rfl hTd) (by rw [List.length_map]; omega) fun d hd y G2 H' e2 e3 hy Q2 k => k _ rfl et_yes fun e he => ?_)) ?_) fun vl G6 H6 g6 hL => ?_
    · obtain ⟨q1, _, rfl⟩ := List.mem_map.mp hd
      cases he
      exact dl_d (dl_cb (da_cons (d_var rfl hy) da_nil) fun _ _ => rcdl_list (b := false))
    · show PyData.list ((ts.map (prD false)).filterMap fun d => some (toL d)) = .list (ts.map (prD true))
      rw [List.filterMap_eq_map', List.map_map]
      rfl
    have x6 := g6.g2
    have p6 : G6 p = none := g6.sep p p4 s5.ne
    have s6 := s5.mono g6.h12
    have hTd6 := dp_mono g6.hg hTd
    -- the first look
    refine qd_no x6 (et_is (et_or (b := false) (t_test (K := K) (d_op (tpD _ _ false false _ (d_var rfl hTd6)) (d_var rfl (.int _)) fun _ _ => rd_neS 0 rfl (by decide))) fun _ =>
      t_test (K := K) (d_op (u_heights (d_var rfl hTd6) hw (by omega)) (d_cb (da_cons (dl_d (lc_tw (c := false) (fun p => some (.int p.2)) (d_var rfl hTd6) (by omega) (fun _ _ => rfl) (fun _ _ _ _ => et_yes) fun p _ e he G2 _ => by cases he; exact d_var rfl (.int p.2))) da_nil) fun _ _ => rcd_tuple (b := true)) fun _ _ => ?_)) rfl) fun H7 e7 => ?_
    · have em : ts.filterMap (fun p => some (PyData.int p.2)) = (ts.map (·.2)).map .int := by
        rw [List.filterMap_eq_map', List.map_map]
        rfl
      rw [em]
      exact rd_neS 1 (all_map fun _ => rfl) (by decide)
    have itD : ∀ (te : TE) (σ : L2.St) (b c : Bool) (B : Hp), EvD K te σ B (twD b c ts) → EvD K (tCall (spP K 1 R_is_towers) [] E0 (tCons te tNil)) σ B (.bool true) := fun te σ b c B h => by
      have z := u_is_towers (E := E0) h
      rw [show wrongD (twD b c ts) = .none from wrongD_wf hw] at z
      exact z
    refine qd_no (x6.trans e7) (et_is (et_or (b := false) (t_test (K := K) (d_op (itD _ _ false false _ (d_var rfl hTd6)) (d_bl (b := true)) fun _ _ => rd_notBl)) fun _ =>
      et_or (b := false) (t_test (K := K) (d_op (itD _ _ true true _ (d_var rfl hL)) (d_bl (b := true)) fun _ _ => rd_notBl)) fun _ =>
      t_test (K := K) (d_op (tpD _ _ true true _ (d_var rfl hL)) (d_var rfl (.int _)) fun _ _ => rd_neS 0 rfl (by decide))) rfl) fun H8 e8 => ?_
    have x8 := (x6.trans e7).trans e8
    have s8 := (s6.mono e7).mono e8
    -- places
    refine qd_asgL (K := K) x8 (dl_lst (da_cons (d_int (i := 0)) da_nil) (by show 1 ≤ 100000; decide)) fun lp xs G9 H9 l0 l1 g9 hl9 hxs => ?_
    have exs := DpAll.ints (ns := [0]) hxs
    subst exs
    have p9 : G9 p = none := g9.sep p p6 s8.ne
    have s9 := s8.mono g9.h12
    have hT9 := dp_mono g9.hg hTd6
    have hL9 := dp_mono g9.hg hL
    have lpp : lp ≠ p := fun z => by subst z; exact s8.ne l1
    -- how often
    have hmany : (6 * (if (!decide (ts = [])) = true then 1 else 0) : Int) ≤ 6 ∧ 0 ≤ (6 * (if (!decide (ts = [])) = true then 1 else 0) : Int) ∧ (ts = [] → (6 * (if (!decide (ts = [])) = true then 1 else 0) : Int) = 0) := by
      by_cases z : ts = []
      · rw [decide_eq_true z]
        simp
      · rw [decide_eq_false z]
        exact ⟨by decide, by decide, fun e => absurd e z⟩
    refine qd_forRg1 (K := K) (m := 6 * (if (!decide (ts = [])) = true then 1 else 0)) g9.g2 (da_cons (d_op d_int (d_cb (da_cons (d_op (d_var rfl hT9) (d_tup da_nil (Nat.zero_le _)) fun _ _ => by
        rw [← eqv_empty]
        exact rd_neD (okD_shaped (ok_tw false false ts) (by decide)) rfl) da_nil) fun _ _ => rcd_intB) fun _ _ => rd_intC (.inl ⟨by decide, by decide⟩)) da_nil) (by omega) (by omega) fun G10 H10 g10 => ?_
    have x10 : Ex G9 H10 := g9.g2.trans g10.h12
    have hl10 := g10.h12 _ _ hl9
    have s10 := s9.mono g10.h12
    generalize (6 * (if (!decide (ts = [])) = true then 1 else 0) : Int) = m at hmany
    obtain ⟨hm6, hm0, hme⟩ := hmany
    refine ⟨fun i σ' H' => (∃ a9, σ' = [some (.ref a), some (.int c), some (.ref p), some (.ref T), some (.int (topN ts : Nat)), a5, a6, some vl, some (.ref lp), a9, r10]) ∧ Ex G9 H' ∧ SrcAt H' p ∧ ∃ pl : List Int, pl.length = i + 1 ∧ H' lp = some (.lst (pl.map V.int)), ⟨⟨_, rfl⟩, x10, s10, [0], rfl, hl10⟩, ?_, ?_⟩
    · rintro i σ' H' hi ⟨⟨a9, rfl⟩, x', s', pl, hpl, hlp⟩
      have hne : ts ≠ [] := fun z => by rw [hme z] at hi; cases hi
      have hpos : 0 < ts.length := List.length_pos_iff.mpr hne
      refine ⟨_, rfl, .inl ⟨rfl, _, sq_of hlp⟩, ?_⟩
      refine ⟨_, rfl, _, rfl, p, .ref T, G9, false, ts.map (prD false), rfl, x', p9, s', hT9, by rw [List.length_map]; exact hpos, by rw [List.length_map]; omega, fun d v H11 hd hv e11 s11 => ?_⟩
      obtain ⟨q1, _, rfl⟩ := List.mem_map.mp hd
      obtain ⟨b, xs, rfl, hb, hxs⟩ := Dp.tup_of (ds := [.int q1.1, .int q1.2]) hv
      have exs := DpAll.ints (ns := [q1.1, q1.2]) hxs
      subst exs
      have x11 : Ex G9 H11 := e11.base x' p9
      refine .inr ⟨b, _, 0, .int q1.1, rfl, rfl, ex_t x11 hb, rfl, ?_⟩
      refine ⟨_, rfl, 1, rfl, by show 4 ≤ sizeLine; decide, fun pp hpp => ?_⟩
      have ppn : p ≠ pp := fun z => by subst z; exact s11.ne hpp
      refine ⟨p, .ref pp, _, true, ([0, 0, 1, -1] : List Int).map .int, rfl, one_ex upd_same, one_ne ppn, s11.mono (Ex.new hpp), .lst (sq_of upd_same) (DpAll.of_ints [0, 0, 1, -1]), by show 0 < 4; decide, by show 4 ≤ 1000; decide, fun d v H12 hd hv e12 s12 => ?_⟩
      obtain ⟨j, _, rfl⟩ := List.mem_map.mp hd
      rw [hv.int_of]
      have x12 : Ex G9 H12 := e12.base (x11.trans (Ex.new hpp)) p9
      have hl12 : H12 lp = some (.lst (pl.map V.int)) := e12 lp _ lpp (Ex.new hpp _ _ (e11 lp _ lpp hlp))
      refine ⟨q1.1, j, rfl, rfl, lp, _, _, rfl, rfl, hl12, sz_lt (by rw [List.length_map]; omega), ⟨_, rfl⟩, Ex.mut x12 l0, ?_, pl ++ [q1.1 + j], by rw [List.length_append, hpl]; rfl, by rw [upd_same, List.map_append]; rfl⟩
      obtain ⟨z0, z1, z2, hz⟩ := s12
      exact ⟨z0, z1, z2, by rw [upd_ne lpp.symm]; exact hz⟩
    rintro σ' H13 ⟨⟨a9, rfl⟩, x13, s13, pl, hpl, hlp⟩
    -- the places stand now
    have xB := ex_add x13 hlp
    have eB : Ex G9 (upd G9 lp (.lst (pl.map V.int))) := Ex.new l0
    have hlB : (upd G9 lp (.lst (pl.map V.int))) lp = some (.lst (pl.map V.int)) := upd_same
    have xGB : Ex G (upd G9 lp (.lst (pl.map V.int))) := ((xG.trans g6.hg).trans g9.hg).trans eB
    have hTB : Dp K (upd G9 lp (.lst (pl.map V.int))) (.ref T) (twD false false ts) := dp_mono eB hT9
    have hLB := dp_mono eB hL9
    have hTo : (upd G9 lp (.lst (pl.map V.int))) T = some (.frz o (.tup (ps.map V.ref))) := eB _ _ (g9.hg _ _ (g6.hg _ _ hT))
    have hprB : PrA K (upd G9 lp (.lst (pl.map V.int))) ps ts := PrA.mono eB (PrA.mono g9.hg (PrA.mono g6.hg hpr))
    generalize upd G9 lp (.lst (pl.map V.int)) = B at *
    have hMB : Dp K B (.int (topN ts : Nat)) (.int (topN ts : Nat)) := .int _
    have h64 : ∀ p ∈ ts, p.2 ≤ 64 := fun p hp => by have := hh p hp; omega
    have lkD : ∀ (te tf : TE) (σ : L2.St) (b c : Bool), EvD K te σ B (twD b c ts) → EvDL K (tCall (spPL K 1 R_links) [] E0 (tCons te tNil)) σ B (lkAll (topN ts) ts) := fun te tf σ b c h => by
      have z := u_links (E := E0) h hw (by omega) h64
      rw [lnk_eq hw] at z
      exact z
    have llD : ∀ (te tf : TE) (σ : L2.St), EvD K te σ B (twD false false ts) → EvD K tf σ B (.int (topN ts : Nat)) → EvDL K (tCall (spPL K 2 R_law_links) [] E0 (tCons te (tCons tf tNil))) σ B (lkAll (topN ts) ts) := fun te tf σ h h2 =>
      dl_call (da_cons h (da_cons h2 da_nil)) (sp_PL rfl ⟨false, false, ts, topN ts, rfl, hw, by omega, by omega, h64, rfl⟩)
    -- the second look
    have kD : EvD K (tCall (spKeys K) [] E0 (tCons (tVar 3) (tCons (tVar 8) (tCons (tVar 4) tNil)))) [some (.ref a), some (.int c), some (.ref p), some (.ref T), some (.int (topN ts : Nat)), a5, a6, some vl, some (.ref lp), a9, r10] B (.bool true) := fun Hx x Q q =>
      ⟨_, rfl, _, rfl, _, rfl, B, T, lp, o, ps, ts, pl, topN ts, rfl, x, hTo, hc, hd, hprB, hw, by omega, hlB, by omega, by omega, fun H' e => q _ B H' (Gr.ex x e) (.bl true)⟩
    refine qd_no xB (et_is (et_or (b := false) (et_not (t_val kD)) fun _ => t_test (K := K) (d_op (dl_d (lkD _ (tC .non) _ true true (d_var rfl hLB))) (dl_d (llD _ _ _ (d_var rfl hTB) (d_var rfl hMB))) fun _ _ => rd_neS 2 (ok_lk _ _) (by decide))) rfl) fun H14 e14 => ?_
    have x14 := xB.trans e14
    -- what was told is changed
    refine lkD _ (tC .non) _ false false (d_var rfl hTB) H14 x14 _ fun q1 xs1 G15 H15 g0 h0 g15 hq1 hxs1 => ⟨.inl ⟨rfl, _, sq_of hq1⟩, q1, xs1, rfl, rfl, hq1, ?_⟩
    have x16 : Ex B (upd H15 q1 (.lst [])) := g15.hg.trans (Ex.mut g15.g2 g0)
    generalize upd H15 q1 (.lst []) = H16 at x16
    refine u_lane (K := K) (l := 1) (d_var rfl hTB) d_int hw (by omega) (by decide) H16 x16 _ fun q2 xs2 G17 H17 g0' h0' g17 hq2 hxs2 => ⟨.inl ⟨rfl, _, sq_of hq2⟩, q2, xs2, .non, rfl, rfl, hq2, sz_lt (by
      have z := hxs2.length
      have z2 := List.length_filterMap_le (laneF 1) ts
      omega), ?_⟩
    have x18 : Ex B (upd H17 q2 (.lst (xs2 ++ [.non]))) := g17.hg.trans (Ex.mut g17.g2 g0')
    generalize upd H17 q2 (.lst (xs2 ++ [.non])) = H18 at x18
    -- the third look
    refine qd_no x18 (et_is (et_or (b := false) (t_test (K := K) (d_op (dl_d (lkD _ (tC .non) _ false false (d_var rfl hTB))) (dl_d (llD _ _ _ (d_var rfl hTB) (d_var rfl hMB))) fun _ _ => rd_neS 2 (ok_lk _ _) (by decide))) fun _ =>
      t_test (K := K) (d_op (dl_d (u_lane (l := 1) (d_var rfl hLB) d_int hw (by omega) (by decide))) (dl_d (lc_tw (c := false) (laneF 1) (d_var rfl hTB) (by omega) (fun _ _ => rfl) (fun p hp _ _ => et_is et_yes ?_) fun p hp e he G2 _ => ?_)) fun _ _ => rd_neS 1 ?_ (by decide))) rfl) fun H19 e19 => ?_
    · unfold laneF
      rw [if_pos (h1p p hp)]
      rfl
    · unfold laneF at he
      rw [if_pos (h1p p hp)] at he
      cases he
      exact d_var rfl (.int p.1)
    · show (ts.filterMap (laneF 1)).all (okD 0) = true
      rw [List.all_eq_true]
      intro d hd
      obtain ⟨p, hp, hz⟩ := List.mem_filterMap.mp hd
      unfold laneF at hz
      rw [if_pos (h1p p hp)] at hz
      cases hz
      rfl
    have x19 := x18.trans e19
    refine sd_no x19 (t_test (K := K) (d_op (d := twD true true ts) (e := twD true true ts) (d_var rfl hLB) (d_is (dl_d (dl_lc (b := false) (ds := ts.map (prD false)) (fun d => some (toL d)) (d_var rfl hTB) (by rw [List.length_map]; omega) fun d hd y G2 H' e2 e3 hy Q2 k => k _ rfl et_yes fun e he => ?_)) ?_) fun _ _ => rd_neS 2 (ok_tw true true ts) (by decide))) fun H20 e20 => ⟨⟨_, _, _, _, _, _, _, _, _, _, rfl⟩, xGB.trans (x19.trans e20)⟩
    · obtain ⟨q1, _, rfl⟩ := List.mem_map.mp hd
      cases he
      exact dl_d (dl_cb (da_cons (d_var rfl hy) da_nil) fun _ _ => rcdl_list (b := false))
    · show PyData.list ((ts.map (prD false)).filterMap fun d => some (toL d)) = .list (ts.map (prD true))
      rw [List.filterMap_eq_map', List.map_map]
      rfl
  · rintro σ' H' ⟨⟨r1, r2, r3, r4, r5, r6, r7, r8, r9, r10, rfl⟩, x'⟩
    have w0 : WfF none ([] : Tw) := trivial
    have wd0 : wrongD (.tuple []) = .none := wrongD_wf (b := false) (c := false) (ts := []) w0
    refine sd_ret (K := K) (d := .bool true) (B := G) x' ?_ fun v G5 H5 g5 hv => by
      rw [hv.bl_of]
      exact q H5
    refine d_and (a := true) (b := true) (d_op (u_top (b := false) (c := false) (ts := []) (d_tup da_nil (Nat.zero_le _)) w0 (Nat.zero_le _)) d_int fun _ _ => rd_eqS 0 rfl (by decide)) fun _ => ?_
    refine d_and (a := true) (b := true) (d_op (u_heights (b := true) (c := false) (ts := []) (dl_d (dl_lst da_nil (Nat.zero_le _))) w0 (Nat.zero_le _)) (d_tup da_nil (Nat.zero_le _)) fun _ _ => rd_eqS 1 rfl (by decide)) fun _ => ?_
    refine d_and (a := true) (b := true) (d_op (dl_d (u_links (b := false) (c := false) (ts := []) (d_tup da_nil (Nat.zero_le _)) w0 (Nat.zero_le _) fun p hp => by cases hp)) (dl_d (dl_lst da_nil (Nat.zero_le _))) fun _ _ => rd_eqS 1 rfl (by decide)) fun _ => ?_
    refine d_and (a := true) (b := true) (d_op (dl_d (u_lane (b := false) (c := false) (ts := []) (d_tup da_nil (Nat.zero_le _)) d_int w0 (Nat.zero_le _) (by decide))) (dl_d (dl_lst da_nil (Nat.zero_le _))) fun _ _ => rd_eqS 1 rfl (by decide)) fun _ => ?_
    refine d_op (u_is_towers (d_tup da_nil (Nat.zero_le _))) d_bl fun _ _ => ?_
    rw [wd0]
    exact rd_isBl
end
end Tk
end

section
set_option Elab.async false
set_option linter.all false
set_option maxRecDepth 100000
set_option maxHeartbeats 0
/-! The end: what the top leaves, and the law. -/
namespace Tk
open PySem PySem.Spec PyProof.Rows L2 Evl Tb
def dd_is_whole : He.DefD := ⟨("is_whole", none), "is_whole", "is_whole", defArgs s_is_whole, defBody s_is_whole, defScope s_is_whole, [], []⟩
def dd_is_row : He.DefD := ⟨("is_row", none), "is_row", "is_row", defArgs s_is_row, defBody s_is_row, defScope s_is_row, [], []⟩
def dd_check_key : He.DefD := ⟨("check_key", none), "check_key", "check_key", defArgs s_check_key, defBody s_check_key, defScope s_check_key, [], []⟩
def dd_is_pair : He.DefD := ⟨("_is_pair", none), "_is_pair", "_is_pair", defArgs s_is_pair, defBody s_is_pair, defScope s_is_pair, [], []⟩
def dd_wrong_tower : He.DefD := ⟨("wrong_tower", none), "wrong_tower", "wrong_tower", defArgs s_wrong_tower, defBody s_wrong_tower, defScope s_wrong_tower, [], []⟩
def dd_is_towers : He.DefD := ⟨("is_towers", none), "is_towers", "is_towers", defArgs s_is_towers, defBody s_is_towers, defScope s_is_towers, [], []⟩
def dd_check_towers : He.DefD := ⟨("check_towers", none), "check_towers", "check_towers", defArgs s_check_towers, defBody s_check_towers, defScope s_check_towers, [], []⟩
def dd_check_number : He.DefD := ⟨("check_number", none), "check_number", "check_number", defArgs s_check_number, defBody s_check_number, defScope s_check_number, [.non], []⟩
def dd_heights : He.DefD := ⟨("heights", none), "heights", "heights", defArgs s_heights, defBody s_heights, defScope s_heights, [], []⟩
def dd_tallest : He.DefD := ⟨("tallest", none), "tallest", "tallest", defArgs s_tallest, defBody s_tallest, defScope s_tallest, [], []⟩
def dd_top : He.DefD := ⟨("top", none), "top", "top", defArgs s_top, defBody s_top, defScope s_top, [], []⟩
def dd_height_of : He.DefD := ⟨("height_of", none), "height_of", "height_of", defArgs s_height_of, defBody s_height_of, defScope s_height_of, [], []⟩
def dd_lane : He.DefD := ⟨("lane", none), "lane", "lane", defArgs s_lane, defBody s_lane, defScope s_lane, [], []⟩
def dd_next_key : He.DefD := ⟨("next_key", none), "next_key", "next_key", defArgs s_next_key, defBody s_next_key, defScope s_next_key, [], []⟩
def dd_links_from : He.DefD := ⟨("_links_from", none), "_links_from", "_links_from", defArgs s_links_from, defBody s_links_from, defScope s_links_from, [], []⟩
def dd_links : He.DefD := ⟨("links", none), "links", "links", defArgs s_links, defBody s_links, defScope s_links, [], []⟩
def dd_law_source_of : He.DefD := ⟨("_law_source_of", none), "_law_source_of", "_law_source_of", defArgs s_law_source_of, defBody s_law_source_of, defScope s_law_source_of, [], []⟩
def dd_law_next : He.DefD := ⟨("_law_next", none), "_law_next", "_law_next", defArgs s_law_next, defBody s_law_next, defScope s_law_next, [], []⟩
def dd_law_one : He.DefD := ⟨("_law_one", none), "_law_one", "_law_one", defArgs s_law_one, defBody s_law_one, defScope s_law_one, [], []⟩
def dd_law_towers : He.DefD := ⟨("_law_towers", none), "_law_towers", "_law_towers", defArgs s_law_towers, defBody s_law_towers, defScope s_law_towers, [], []⟩
def dd_law_next_key : He.DefD := ⟨("_law_next_key", none), "_law_next_key", "_law_next_key", defArgs s_law_next_key, defBody s_law_next_key, defScope s_law_next_key, [], []⟩
def dd_law_links : He.DefD := ⟨("_law_links", none), "_law_links", "_law_links", defArgs s_law_links, defBody s_law_links, defScope s_law_links, [], []⟩
def dd_law_keys_right : He.DefD := ⟨("_law_keys_right", none), "_law_keys_right", "_law_keys_right", defArgs s_law_keys_right, defBody s_law_keys_right, defScope s_law_keys_right, [], []⟩
def dd_law : He.DefD := ⟨("law", none), "law", "law", defArgs s_law, defBody s_law, defScope s_law, [], []⟩
def fnD : List He.DefD := [dd_is_whole, dd_is_row, dd_check_key, dd_is_pair, dd_wrong_tower, dd_is_towers, dd_check_towers, dd_check_number, dd_heights, dd_tallest, dd_top, dd_height_of, dd_lane, dd_next_key, dd_links_from, dd_links, dd_law_source_of, dd_law_next, dd_law_one, dd_law_towers, dd_law_next_key, dd_law_links, dd_law_keys_right, dd_law]
def faD : List He.Fa := [.glo "is_whole", .glo "is_row", .glo "check_key", .glo "_is_pair", .glo "wrong_tower", .glo "is_towers", .glo "check_towers", .glo "check_number", .glo "heights", .glo "tallest", .glo "top", .glo "height_of", .glo "lane", .glo "next_key", .glo "_links_from", .glo "links", .glo "_law_source_of", .glo "_law_next", .glo "_law_one", .glo "_law_towers", .glo "_law_next_key", .glo "_law_links", .glo "_law_keys_right", .glo "law", .free "int", .free "bool", .free "str", .free "list", .free "tuple", .free "dict", .free "len", .free "max", .free "min", .free "isinstance", .free "enumerate", .free "reversed", .free "range"]
abbrev RR : PySem.W.OpenRow := PySem.W.OpenLaw.row PySem.Challenge.rw_tosslanes_k01_towers_and_lanes
abbrev hkD : PySem.W.Hook := He.hookD 4 faD fnD
def obD (s : PySem.W.SharedT) : He.AlD := He.obsDG 4 faD fnD (HandSHeadRun.getT s)
theorem obD_eq (s : PySem.W.SharedT) : obD s = hkD.obs s.abs := He.obsDG_eq (HandSHeadRun.getT_eq s)
def namesD : List PySem.Str := (["LaneError", "NoTowers", "NoKey", "NoNumber", "is_whole", "is_row", "check_number", "check_key", "is_towers", "top", "heights", "height_of", "lane", "next_key", "links", "check_towers", "wrong_tower", "tallest", "_is_pair", "_links_from", "_law_source_of", "_law_next", "_law_one", "_law_towers", "_law_next_key", "_law_links", "_law_keys_right"] : List PySem.Str)
theorem runD (w : World) : HandSHeadRun.RunEq RR (PySem.W.view RR.prog [31]) hkD obD 6000 namesD w := by
  intro os
  kernel_rfl
theorem factsD {P : Program} {w : World} {K : PySem.W.Frag} {h : Heap} {mg : Str → Option Value} {f : Addr} (X : K.In h) (G : h.Ns mainGlobals mg) (hfa : mg ("law" : Str) = some (.ref f)) (c : He.SaysD faD fnD K) :
    ∃ fd : FuncData, (∀ (s : Shared) (v : Value), BindsTo s fd ⟨[v], []⟩ [("_law_script", v)]) ∧ ∀ base : Heap, K.In base → base.Ns mainGlobals mg → FnOk P w K mg base CX0 8 f fd ["_law_script"] (spLaw K) := by
  obtain ⟨fd0, F0⟩ := c.def_ 0 (d := dd_is_whole) rfl
  have m0 := He.glo_ok X G (c.fact 0 (f := .glo "is_whole") rfl)
  obtain ⟨fd1, F1⟩ := c.def_ 1 (d := dd_is_row) rfl
  have m1 := He.glo_ok X G (c.fact 1 (f := .glo "is_row") rfl)
  obtain ⟨fd2, F2⟩ := c.def_ 2 (d := dd_check_key) rfl
  have m2 := He.glo_ok X G (c.fact 2 (f := .glo "check_key") rfl)
  obtain ⟨fd3, F3⟩ := c.def_ 3 (d := dd_is_pair) rfl
  have m3 := He.glo_ok X G (c.fact 3 (f := .glo "_is_pair") rfl)
  obtain ⟨fd4, F4⟩ := c.def_ 4 (d := dd_wrong_tower) rfl
  have m4 := He.glo_ok X G (c.fact 4 (f := .glo "wrong_tower") rfl)
  obtain ⟨fd5, F5⟩ := c.def_ 5 (d := dd_is_towers) rfl
  have m5 := He.glo_ok X G (c.fact 5 (f := .glo "is_towers") rfl)
  obtain ⟨fd6, F6⟩ := c.def_ 6 (d := dd_check_towers) rfl
  have m6 := He.glo_ok X G (c.fact 6 (f := .glo "check_towers") rfl)
  obtain ⟨fd7, F7⟩ := c.def_ 7 (d := dd_check_number) rfl
  have m7 := He.glo_ok X G (c.fact 7 (f := .glo "check_number") rfl)
  obtain ⟨fd8, F8⟩ := c.def_ 8 (d := dd_heights) rfl
  have m8 := He.glo_ok X G (c.fact 8 (f := .glo "heights") rfl)
  obtain ⟨fd9, F9⟩ := c.def_ 9 (d := dd_tallest) rfl
  have m9 := He.glo_ok X G (c.fact 9 (f := .glo "tallest") rfl)
  obtain ⟨fd10, F10⟩ := c.def_ 10 (d := dd_top) rfl
  have m10 := He.glo_ok X G (c.fact 10 (f := .glo "top") rfl)
  obtain ⟨fd11, F11⟩ := c.def_ 11 (d := dd_height_of) rfl
  have m11 := He.glo_ok X G (c.fact 11 (f := .glo "height_of") rfl)
  obtain ⟨fd12, F12⟩ := c.def_ 12 (d := dd_lane) rfl
  have m12 := He.glo_ok X G (c.fact 12 (f := .glo "lane") rfl)
  obtain ⟨fd13, F13⟩ := c.def_ 13 (d := dd_next_key) rfl
  have m13 := He.glo_ok X G (c.fact 13 (f := .glo "next_key") rfl)
  obtain ⟨fd14, F14⟩ := c.def_ 14 (d := dd_links_from) rfl
  have m14 := He.glo_ok X G (c.fact 14 (f := .glo "_links_from") rfl)
  obtain ⟨fd15, F15⟩ := c.def_ 15 (d := dd_links) rfl
  have m15 := He.glo_ok X G (c.fact 15 (f := .glo "links") rfl)
  obtain ⟨fd16, F16⟩ := c.def_ 16 (d := dd_law_source_of) rfl
  have m16 := He.glo_ok X G (c.fact 16 (f := .glo "_law_source_of") rfl)
  obtain ⟨fd17, F17⟩ := c.def_ 17 (d := dd_law_next) rfl
  have m17 := He.glo_ok X G (c.fact 17 (f := .glo "_law_next") rfl)
  obtain ⟨fd18, F18⟩ := c.def_ 18 (d := dd_law_one) rfl
  have m18 := He.glo_ok X G (c.fact 18 (f := .glo "_law_one") rfl)
  obtain ⟨fd19, F19⟩ := c.def_ 19 (d := dd_law_towers) rfl
  have m19 := He.glo_ok X G (c.fact 19 (f := .glo "_law_towers") rfl)
  obtain ⟨fd20, F20⟩ := c.def_ 20 (d := dd_law_next_key) rfl
  have m20 := He.glo_ok X G (c.fact 20 (f := .glo "_law_next_key") rfl)
  obtain ⟨fd21, F21⟩ := c.def_ 21 (d := dd_law_links) rfl
  have m21 := He.glo_ok X G (c.fact 21 (f := .glo "_law_links") rfl)
  obtain ⟨fd22, F22⟩ := c.def_ 22 (d := dd_law_keys_right) rfl
  have m22 := He.glo_ok X G (c.fact 22 (f := .glo "_law_keys_right") rfl)
  obtain ⟨fd23, F23⟩ := c.def_ 23 (d := dd_law) rfl
  have e := hfa.symm.trans (He.glo_ok X G (c.fact 23 (f := .glo "law") rfl))
  cases e
  have bl : Bl mg := ⟨He.free_ok X G (c.fact 24 (f := .free "int") rfl), He.free_ok X G (c.fact 25 (f := .free "bool") rfl), He.free_ok X G (c.fact 26 (f := .free "str") rfl), He.free_ok X G (c.fact 27 (f := .free "list") rfl), He.free_ok X G (c.fact 28 (f := .free "tuple") rfl), He.free_ok X G (c.fact 29 (f := .free "dict") rfl), He.free_ok X G (c.fact 30 (f := .free "len") rfl), He.free_ok X G (c.fact 31 (f := .free "max") rfl), He.free_ok X G (c.fact 32 (f := .free "min") rfl), He.free_ok X G (c.fact 33 (f := .free "isinstance") rfl), He.free_ok X G (c.fact 34 (f := .free "enumerate") rfl), He.free_ok X G (c.fact 35 (f := .free "reversed") rfl), He.free_ok X G (c.fact 36 (f := .free "range") rfl)⟩
  have b := FunD.bindsA (ps := ["_law_script"]) F23 fun _ _ _ _ _ _ us hl => match us, hl with | [_], _ => rfl
  refine ⟨fd23, fun s v => b s [v] rfl, fun base _ _ => ?_⟩
  have A0 := H_is_whole (P := P) (w := w) (base := base) (CX := CX0) bl F0 m0
  have A1 := H_is_row (P := P) (w := w) (base := base) (CX := CX0) bl F1 m1
  have A2 := H_check_key (P := P) (w := w) (base := base) (CX := CX0) noX0 A0 F2 m2
  have A3 := H_is_pair (P := P) (w := w) (base := base) (CX := CX0) bl noX0 A0 A1 F3 m3
  have A4 := H_wrong_tower (P := P) (w := w) (base := base) (CX := CX0) bl noX0 A1 A3 F4 m4
  have A5 := H_is_towers (P := P) (w := w) (base := base) (CX := CX0) noX0 A4 F5 m5
  have A6 := H_check_towers (P := P) (w := w) (base := base) (CX := CX0) noX0 A4 F6 m6
  have A7 := H_check_number (P := P) (w := w) (base := base) (CX := CX0) noX0 A0 F7 m7
  have A8 := H_heights (P := P) (w := w) (base := base) (CX := CX0) bl noX0 A6 F8 m8
  have A9 := H_tallest (P := P) (w := w) (base := base) (CX := CX0) bl F9 m9
  have A10 := H_top (P := P) (w := w) (base := base) (CX := CX0) bl noX0 A6 A9 F10 m10
  have A11 := H_height_of (P := P) (w := w) (base := base) (CX := CX0) noX0 A6 A2 F11 m11
  have A12 := H_lane (P := P) (w := w) (base := base) (CX := CX0) noX0 A6 A7 F12 m12
  have A13 := H_next_key (P := P) (w := w) (base := base) (CX := CX0) noX0 A6 A2 A7 F13 m13
  have A14 := H_links_from (P := P) (w := w) (base := base) (CX := CX0) bl F14 m14
  have A15 := H_links (P := P) (w := w) (base := base) (CX := CX0) bl noX0 A10 A14 F15 m15
  have A16 := H_source_of (P := P) (w := w) (base := base) (CX := CX0) bl F16 m16
  have A17 := H_next (P := P) (w := w) (base := base) (CX := CX0) bl F17 m17
  have A18 := H_one (P := P) (w := w) (base := base) (CX := CX0) bl noX0 A17 F18 m18
  have A19 := H_towers (P := P) (w := w) (base := base) (CX := CX0) bl noX0 A17 A18 F19 m19
  have A20 := H_law_next_key (P := P) (w := w) (base := base) (CX := CX0) noX0 F20 m20
  have A21 := H_law_links (P := P) (w := w) (base := base) (CX := CX0) bl noY0 A20 F21 m21
  have A22 := H_keys_right (P := P) (w := w) (base := base) (CX := CX0) bl noY0 A12 A13 A11 A20 F22 m22
  exact H_law bl noY0 A16 A19 A18 A10 A8 A5 A22 A15 A21 A12 F23
end Tk
open PySem PySem.W PySem.Calls PyProof.Rows
theorem PySem.Challenge.cw_tosslanes_k01_towers_and_lanes_holds : PySem.Challenge.rw_tosslanes_k01_towers_and_lanes.Holds := by
  w_on; o_law
  refine HandSHeadRun.head_any (r := OpenLaw.row PySem.Challenge.rw_tosslanes_k01_towers_and_lanes) (q := view (OpenLaw.row PySem.Challenge.rw_tosslanes_k01_towers_and_lanes).prog [31]) (H := Tk.hkD) (ob := Tk.obD) (M := 6000) (loose := Tk.namesD) (d := HandSHeadRun.topDef (OpenLaw.row PySem.Challenge.rw_tosslanes_k01_towers_and_lanes).prog 31) (kwd := []) Tk.obD_eq
    (by kernel_rfl) (fun s => by kernel_rfl) Tk.runD (by kernel_rfl) (by kernel_rfl) (by kernel_rfl) (by rfl) (by first | assumption | decide +kernel) (by decide +kernel) ⟨rfl, rfl, rfl, rfl, rfl, by decide +kernel⟩ ?hw ?hc
  case hw => w_witness2
  case hc =>
    refine L2.walk_ofE (l := PySem.Challenge.rw_tosslanes_k01_towers_and_lanes) (n := 63) (k := 8) (x := "_law_script") (CX := L2.CX0) rfl (by decide) (by kernel_rfl) ⟨rfl, by decide, by decide⟩ ?F (fun _ _ _ _ z => z)
    intro w mg fa h Y G hmg0
    obtain ⟨K, KX, c⟩ := Y
    have hmg : mg ("law" : PySem.Str) = some (.ref fa) := by
      have e : (HandSHeadRun.topDef (OpenLaw.row PySem.Challenge.rw_tosslanes_k01_towers_and_lanes).prog 31).name = ("law" : PySem.Str) := by kernel_rfl
      rw [← e]
      exact hmg0
    obtain ⟨fd, hb, hF⟩ := Tk.factsD (P := (PySem.Challenge.rw_tosslanes_k01_towers_and_lanes).prog) (w := w) KX G hmg c
    exact ⟨K, fd, Tk.spLaw K, KX, hb, fun H a ns hl _ hS => ⟨a, ns, rfl, hS, hl, fun _ => rfl⟩, hF⟩
end
