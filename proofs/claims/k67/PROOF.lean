import PyProof.Rows.All
import Wide.All
import OpenK.AllK
import Wide.FinOn
import HandS.ForMost
import HandS.IsInst
import HandS.Wide
import HandS.Evl
import HandS.Rev
import HandS.Walk
import HandS.NoneIn
import HandS.Style
import HandS.Defaults
import KE.GoesEnumKw
import HandS.SortKw
import KE.DataMinMax
import KE.KDictPairs
import HandS.Conv
import HandS.TupMul
import HandS.TupAny
import HandS.CallLocal
import HandS.ExcInit
import HandS.ExcField
import HandS.TryMany
import HandS.WordsExc
import HandS.SortInts
import HandS.AnyAll
import HandS.Text
import HandS.Deep
import PyProof.CallFns
import HandS.More
import HandS.HeadHook1
import HandS.HeadHook2
import HandS.SetFor
import HandS.Zip
import KE.GoesMore
import HandS.SortRule
import PySem.Challenge.RW_tosslanes_k67_whole_keys_taken_out
import HandS.Head0
import HandS.Head1
import HandS.Head2
import HandS.HeadEnd
section
set_option Elab.async false
set_option linter.all false
set_option maxRecDepth 100000
set_option maxHeartbeats 4000000
/-! Toss base 1: a def by its name (Has), data (Dp) carried along, what an expression gives as data (EvD), rows that are lists or tuples. -/
namespace Tb
open PySem PySem.Spec PyProof.Rows L2 Evl

/-! ### a def of the module, by its name -/
/-- CX lets nothing out that is wanted of nobody -/
def NoX (CX : CXT) : Prop := ∀ X : Cx, Passes CX X.nox E0
theorem noX0 : NoX CX0 := fun _ => pass0
structure Has (P : Program) (w : World) (K : PySem.W.Frag) (mg : Str → Option Value) (base : Heap) (CX : CXT) (x : Str) (k : Nat) (ps : List Str) (dvs : List V) (sp : Sp) : Prop where
  ex : ∃ (f : Addr) (fd : FuncData) (ds : List Value), FnOk P w K mg base CX k f fd ps sp ∧ mg x = some (.ref f) ∧ PySem.W.keepIn K (.ref f) = true ∧ Vals dvs ds ∧ Binds K fd ps ds
theorem pe_has {X : Cx} {CX : CXT} {x : Str} {p pos : Pos} {e : Expr} {es : List Expr} {k : Nat} {ps : List Str} {dvs : List V} {sp : Sp} {t : TA} {E : XK} (F : Has X.prog X.w X.K X.mg X.base CX x k ps dvs sp) (hr : Room k X.A) (hg : Gl X x)
    (ha : PA X (e :: es) t) (hx : Passes CX X E)
    (hd : (x == ("__debug__" : Str)) = false := by decide)
    (he : starEach (e :: es) X.env = (false, eval e X.env) :: starEach es X.env := by rfl) (hpl : (backTo pos (starEach es X.env)).any (·.1) = false := by rfl) : PE X (.Call (.Name x p) (e :: es) [] pos) (tCall sp dvs E t) := by
  obtain ⟨f, fd, ds, F, hm, hk, hv, hb⟩ := F.ex
  exact pe_call F hr hg hm hk hb hv hx ha hd he hpl
/-- a def behind the top, its name, its level -/
theorem has_of {P : Program} {w : World} {K : PySem.W.Frag} {mg : Str → Option Value} {base : Heap} {CX : CXT} {x qual : Str} {st : Stmt} {f : Addr} {fd : FuncData} {k : Nat} {ps : List Str} {sp : Sp}
    (F : FunD K x qual (defArgs st) (defBody st) (defScope st) [] [] f fd) (hm : mg x = some (.ref f)) (ok : FnOk P w K mg base CX k f fd ps sp)
    (h : ∀ (kV doc pm : Value) (an : Option Addr) (cdv ct : Value) (us : List Value), us.length = ps.length → bindArgs (PySem.W.fnOf x qual (defArgs st) (defBody st) (defScope st) .none kV doc pm an cdv ct) ⟨us, []⟩ = pure (ps.zip us)) :
    Has P w K mg base CX x k ps [] sp := by
  refine ⟨f, fd, [], ok, hm, F.kp, .nil, ?_⟩
  obtain ⟨oc, od, dV, kV, doc, pm, an, cdv, ct, osl, rfl, lk, hcd, hD, hK⟩ := F.ex
  rcases hD with ⟨_, rfl⟩ | ⟨e, _⟩
  · exact .all (h kV doc pm an cdv ct)
  · exact absurd rfl e

end Tb
namespace L2
open PySem PySem.Spec PyProof.Rows Evl
/-! ### data -/
section
variable {K : PySem.W.Frag} {H H' : Hp} {v : V} {vs : List V} {d : PyData} {ds : List PyData}
mutual
theorem dp_mono (e : Ex H H') : ∀ {v : V} {d : PyData}, Dp K H v d → Dp K H' v d
  | _, _, .non => .non
  | _, _, .bl b => .bl b
  | _, _, .int i => .int i
  | _, _, .str x => .str x
  | _, _, .lst h a => .lst (ex_l e h) (dpa_mono e a)
  | _, _, .tup h a => .tup (ex_t e h) (dpa_mono e a)
theorem dpa_mono (e : Ex H H') : ∀ {vs : List V} {ds : List PyData}, DpAll K H vs ds → DpAll K H' vs ds
  | _, _, .nil => .nil
  | _, _, .cons h a => .cons (dp_mono e h) (dpa_mono e a)
end
theorem Dp.int_of {i : Int} (h : Dp K H v (.int i)) : v = .int i := by cases h; rfl
theorem Dp.bl_of {b : Bool} (h : Dp K H v (.bool b)) : v = .bl b := by cases h; rfl
theorem Dp.non_of (h : Dp K H v .none) : v = .non := by cases h; rfl
theorem Dp.str_of {x : Str} (h : Dp K H v (.str x)) : v = .str x := by cases h; rfl
theorem Dp.tup_of (h : Dp K H v (.tuple ds)) : ∃ a xs, v = .ref a ∧ SqT K H a xs ∧ DpAll K H xs ds := by
  cases h with
  | tup h a => exact ⟨_, _, rfl, h, a⟩
theorem Dp.lst_of (h : Dp K H v (.list ds)) : ∃ a xs, v = .ref a ∧ SqL K H a xs ∧ DpAll K H xs ds := by
  cases h with
  | lst h a => exact ⟨_, _, rfl, h, a⟩
theorem DpAll.length : ∀ {vs : List V} {ds : List PyData}, DpAll K H vs ds → vs.length = ds.length
  | _, _, .nil => rfl
  | _, _, .cons _ a => by rw [List.length_cons, List.length_cons, DpAll.length a]
theorem DpAll.get : ∀ {vs : List V} {ds : List PyData} {i : Nat} {v : V}, DpAll K H vs ds → vs[i]? = some v → ∃ d, ds[i]? = some d ∧ Dp K H v d
  | _, _, i, v, .nil, h => by simp at h
  | _, _, 0, v, .cons r _, h => by simp at h; subst h; exact ⟨_, rfl, r⟩
  | _, _, i + 1, v, .cons _ a, h => by
    obtain ⟨d, h1, h2⟩ := DpAll.get (i := i) (v := v) a (by simpa using h)
    exact ⟨d, by simpa using h1, h2⟩
theorem DpAll.get' : ∀ {vs : List V} {ds : List PyData} {i : Nat} {d : PyData}, DpAll K H vs ds → ds[i]? = some d → ∃ v, vs[i]? = some v ∧ Dp K H v d
  | _, _, i, d, .nil, h => by simp at h
  | _, _, 0, d, .cons r _, h => by simp at h; subst h; exact ⟨_, rfl, r⟩
  | _, _, i + 1, d, .cons _ a, h => by
    obtain ⟨v, h1, h2⟩ := DpAll.get' (i := i) (d := d) a (by simpa using h)
    exact ⟨v, by simpa using h1, h2⟩
theorem DpAll.append : ∀ {vs ws : List V} {ds es : List PyData}, DpAll K H vs ds → DpAll K H ws es → DpAll K H (vs ++ ws) (ds ++ es)
  | _, _, _, _, .nil, b => b
  | _, _, _, _, .cons r a, b => .cons r (DpAll.append a b)
theorem DpAll.one (h : Dp K H v d) : DpAll K H [v] [d] := .cons h .nil
theorem DpAll.take : ∀ {vs : List V} {ds : List PyData} (n : Nat), DpAll K H vs ds → DpAll K H (vs.take n) (ds.take n)
  | _, _, 0, _ => .nil
  | _, _, _ + 1, .nil => .nil
  | _, _, n + 1, .cons r a => .cons r (DpAll.take n a)
theorem DpAll.drop : ∀ {vs : List V} {ds : List PyData} (n : Nat), DpAll K H vs ds → DpAll K H (vs.drop n) (ds.drop n)
  | _, _, 0, r => r
  | _, _, _ + 1, .nil => .nil
  | _, _, n + 1, .cons _ a => DpAll.drop n a
theorem DpAll.ints : ∀ {vs : List V} {ns : List Int}, DpAll K H vs (ns.map .int) → vs = ns.map V.int
  | _, [], .nil => rfl
  | _, n :: ns, .cons r a => by
    rw [Dp.int_of r, DpAll.ints a]
    rfl
theorem DpAll.of_ints : ∀ ns : List Int, DpAll K H (ns.map V.int) (ns.map .int)
  | [] => .nil
  | n :: ns => .cons (.int n) (DpAll.of_ints ns)

end
end L2
namespace Tb
open PySem PySem.Spec PyProof.Rows L2 Evl
section
variable {K : PySem.W.Frag} {H H' : Hp} {v : V} {vs : List V} {d : PyData} {ds : List PyData}
/-- a row: a list or a tuple -/
def rows (b : Bool) (ds : List PyData) : PyData := if b then .list ds else .tuple ds
def Row (K : PySem.W.Frag) (H : Hp) (a : Addr) (xs : List V) : Prop := SqL K H a xs ∨ SqT K H a xs
theorem row_mono (e : Ex H H') {a : Addr} {xs : List V} (h : Row K H a xs) : Row K H' a xs := h.elim (fun h => .inl (ex_l e h)) fun h => .inr (ex_t e h)
theorem row_of {b : Bool} (h : Dp K H v (rows b ds)) : ∃ a xs, v = .ref a ∧ Row K H a xs ∧ DpAll K H xs ds := by
  cases b with
  | true =>
    obtain ⟨a, xs, e, h, q⟩ := Dp.lst_of (show Dp K H v (.list ds) from h)
    exact ⟨a, xs, e, .inl h, q⟩
  | false =>
    obtain ⟨a, xs, e, h, q⟩ := Dp.tup_of (show Dp K H v (.tuple ds) from h)
    exact ⟨a, xs, e, .inr h, q⟩
end
end Tb
end

section
set_option Elab.async false
set_option linter.all false
set_option maxRecDepth 100000
set_option maxHeartbeats 4000000
/-! Toss base 2: what an expression gives as data. -/
namespace Tb
open PySem PySem.Spec PyProof.Rows L2 Evl

/-! ### growth: H is what is known for good, H1 the whole heap; behind a step G is known for good, H2 the whole heap; what stood in H1 and was not known for good is not in G -/
structure Gr (H H1 G H2 : Hp) : Prop where
  hg : Ex H G
  g2 : Ex G H2
  h12 : Ex H1 H2
  sep : ∀ b, H b = none → H1 b ≠ none → G b = none
theorem Gr.refl {H H1 : Hp} (e : Ex H H1) : Gr H H1 H H1 := ⟨Ex.refl H, e, Ex.refl H1, fun _ h _ => h⟩
theorem Gr.ex {H H1 H2 : Hp} (e : Ex H H1) (e2 : Ex H1 H2) : Gr H H1 H H2 := ⟨Ex.refl H, e.trans e2, e2, fun _ h _ => h⟩
theorem Gr.trans {H H1 G H2 G' H3 : Hp} (a : Gr H H1 G H2) (b : Gr G H2 G' H3) : Gr H H1 G' H3 :=
  ⟨a.hg.trans b.hg, b.g2, a.h12.trans b.h12, fun x h1 h2 => b.sep x (a.sep x h1 h2) fun z => by
    cases q : H1 x with
    | none => exact h2 q
    | some o =>
      rw [a.h12 x o q] at z
      cases z⟩
theorem Gr.new {H H1 : Hp} {p : Addr} {o : HO} (e : Ex H H1) (hp : H1 p = none) : Gr H H1 (upd H p o) (upd H1 p o) := by
  have hp0 := fresh_back e hp
  refine ⟨Ex.new hp0, fun b u q => ?_, Ex.new hp, fun b h1 h2 => ?_⟩
  · by_cases c : b = p
    · subst c
      rw [upd_same] at q ⊢
      exact q
    · rw [upd_ne c] at q ⊢
      exact e b u q
  · by_cases c : b = p
    · subst c
      exact absurd hp h2
    · rw [upd_ne c]
      exact h1
/-- a new object that may change later: it is not known for good -/
theorem Gr.mut {H H1 : Hp} {p : Addr} {o : HO} (e : Ex H H1) (hp : H1 p = none) : Gr H H1 H (upd H1 p o) := .ex e (Ex.new hp)
/-- both of two heaps that stand in a third -/
def both (A B : Hp) : Hp := fun b => match A b with
  | some o => some o
  | none => B b
theorem both_l (A B : Hp) : Ex A (both A B) := fun b o h => by
  unfold both
  rw [h]
theorem both_r {A B C : Hp} (a : Ex A C) (b : Ex B C) : Ex B (both A B) := fun x o h => by
  unfold both
  cases q : A x with
  | none => exact h
  | some u =>
    have z1 := a x u q
    rw [b x o h] at z1
    exact z1.symm
theorem both_in {A B C : Hp} (a : Ex A C) (b : Ex B C) : Ex (both A B) C := fun x o h => by
  unfold both at h
  cases q : A x with
  | none =>
    rw [q] at h
    exact b x o h
  | some u =>
    rw [q] at h
    cases h
    exact a x _ q
theorem Gr.mono {H H' H1 G H2 : Hp} (x : Ex H H') (y : Ex H' H1) (g : Gr H H1 G H2) : Gr H' H1 (both H' G) H2 ∧ Ex G (both H' G) := by
  have y2 := y.trans g.h12
  refine ⟨⟨both_l H' G, both_in y2 g.g2, g.h12, fun b h1 h2 => ?_⟩, both_r y2 g.g2⟩
  unfold both
  rw [h1]
  refine g.sep b ?_ h2
  cases q : H b with
  | none => rfl
  | some o =>
    rw [x b o q] at h1
    cases h1

def EvD (K : PySem.W.Frag) (te : TE) (σ : L2.St) (H : Hp) (d : PyData) : Prop := ∀ H1, Ex H H1 → ∀ Q : VK, (∀ v G H2, Gr H H1 G H2 → Dp K G v d → Q v H2) → te σ H1 Q
def EvDA (K : PySem.W.Frag) (ta : TA) (σ : L2.St) (H : Hp) (ds : List PyData) : Prop := ∀ H1, Ex H H1 → ∀ Q : List V → Hp → Prop, (∀ vs G H2, Gr H H1 G H2 → DpAll K G vs ds → Q vs H2) → ta σ H1 Q
/-- a new list: G is what stands without it -/
def EvDL (K : PySem.W.Frag) (te : TE) (σ : L2.St) (H : Hp) (es : List PyData) : Prop := ∀ H1, Ex H H1 → ∀ Q : VK,
  (∀ p xs G H2, G p = none → H1 p = none → Gr H H1 G H2 → H2 p = some (.lst xs) → DpAll K G xs es → Q (.ref p) H2) → te σ H1 Q
def RD (K : PySem.W.Frag) (r : R2) (d e : PyData) (H : Hp) (z : PyData) : Prop := ∀ x y H1, Ex H H1 → Dp K H x d → Dp K H y e → ∀ Q : VK, (∀ v G H2, Gr H H1 G H2 → Dp K G v z → Q v H2) → r x y H1 Q
def RUD (K : PySem.W.Frag) (r : V → Hp → VK → Prop) (d : PyData) (H : Hp) (z : PyData) : Prop := ∀ x H1, Ex H H1 → Dp K H x d → ∀ Q : VK, (∀ v G H2, Gr H H1 G H2 → Dp K G v z → Q v H2) → r x H1 Q
def RCD (K : PySem.W.Frag) (r : List V → Hp → VK → Prop) (ds : List PyData) (H : Hp) (z : PyData) : Prop := ∀ vs H1, Ex H H1 → DpAll K H vs ds → ∀ Q : VK, (∀ v G H2, Gr H H1 G H2 → Dp K G v z → Q v H2) → r vs H1 Q
def RCDL (K : PySem.W.Frag) (r : List V → Hp → VK → Prop) (ds : List PyData) (H : Hp) (es : List PyData) : Prop := ∀ vs H1, Ex H H1 → DpAll K H vs ds → ∀ Q : VK,
  (∀ p xs G H2, G p = none → H1 p = none → Gr H H1 G H2 → H2 p = some (.lst xs) → DpAll K G xs es → Q (.ref p) H2) → r vs H1 Q
def SpD (K : PySem.W.Frag) (sp : Sp) (dvs : List V) (ds : List PyData) (z : PyData) : Prop := ∀ vs H H1, Ex H H1 → DpAll K H vs ds → ∀ (Q : VK) (E : XK), (∀ v G H2, Gr H H1 G H2 → Dp K G v z → Q v H2) → sp (vs ++ dvs) H1 Q E
def SpDL (K : PySem.W.Frag) (sp : Sp) (dvs : List V) (ds : List PyData) (es : List PyData) : Prop := ∀ vs H H1, Ex H H1 → DpAll K H vs ds → ∀ (Q : VK) (E : XK),
  (∀ p xs G H2, G p = none → H1 p = none → Gr H H1 G H2 → H2 p = some (.lst xs) → DpAll K G xs es → Q (.ref p) H2) → sp (vs ++ dvs) H1 Q E

/-! ### promises of defs that only read -/
def spP (K : PySem.W.Frag) (n : Nat) (R : List PyData → PyData → Prop) : Sp := fun vs H Q _ => ∃ B ds d, Ex B H ∧ ds.length = n ∧ DpAll K B vs ds ∧ R ds d ∧ ∀ v G H2, Gr B H G H2 → Dp K G v d → Q v H2
def spPL (K : PySem.W.Frag) (n : Nat) (R : List PyData → List PyData → Prop) : Sp := fun vs H Q _ => ∃ B ds es, Ex B H ∧ ds.length = n ∧ DpAll K B vs ds ∧ R ds es ∧
  ∀ p xs G H2, G p = none → H p = none → Gr B H G H2 → H2 p = some (.lst xs) → DpAll K G xs es → Q (.ref p) H2
theorem spP_len {K : PySem.W.Frag} {n : Nat} {R : List PyData → PyData → Prop} {ps : List Str} (hn : n = ps.length) : ∀ vs H Q E, spP K n R vs H Q E → vs.length = ps.length := fun vs H Q E h => by
  obtain ⟨B, ds, d, _, hl, hd, _⟩ := h
  rw [DpAll.length hd, hl, hn]
theorem spPL_len {K : PySem.W.Frag} {n : Nat} {R : List PyData → List PyData → Prop} {ps : List Str} (hn : n = ps.length) : ∀ vs H Q E, spPL K n R vs H Q E → vs.length = ps.length := fun vs H Q E h => by
  obtain ⟨B, ds, d, _, hl, hd, _⟩ := h
  rw [DpAll.length hd, hl, hn]

section
variable {K : PySem.W.Frag} {σ : L2.St} {H H' : Hp} {ta tb te tx : TE} {t u : TT} {d e z : PyData} {ds es : List PyData} {r : R2}
theorem EvD.mono (x : Ex H H') (h : EvD K te σ H d) : EvD K te σ H' d := fun H1 y Q q => h H1 (x.trans y) Q fun v G H2 g hd => q v _ H2 (g.mono x y).1 (dp_mono (g.mono x y).2 hd)
theorem EvDA.mono {ta : TA} (x : Ex H H') (h : EvDA K ta σ H ds) : EvDA K ta σ H' ds := fun H1 y Q q => h H1 (x.trans y) Q fun v G H2 g hd => q v _ H2 (g.mono x y).1 (dpa_mono (g.mono x y).2 hd)
theorem EvDL.mono (x : Ex H H') (h : EvDL K te σ H es) : EvDL K te σ H' es := fun H1 y Q q => h H1 (x.trans y) Q fun p xs G H2 g0 h0 g hp hd => q p xs _ H2 (by
  unfold both
  rw [fresh_back y h0]
  exact g0) h0 (g.mono x y).1 hp (dpa_mono (g.mono x y).2 hd)
/-- a new list is data, once it does not change any more -/
theorem gr_freeze {H H1 G H2 : Hp} {p : Addr} {xs : List V} (g0 : G p = none) (h0 : H1 p = none) (g : Gr H H1 G H2) (hp : H2 p = some (.lst xs)) : Gr H H1 (upd G p (.lst xs)) H2 := by
  refine ⟨g.hg.trans (Ex.new g0), fun b u q => ?_, g.h12, fun b h1 h2 => ?_⟩
  · by_cases c : b = p
    · subst c
      rw [upd_same] at q
      cases q
      exact hp
    · rw [upd_ne c] at q
      exact g.g2 b u q
  · by_cases c : b = p
    · subst c
      exact absurd h0 h2
    · rw [upd_ne c]
      exact g.sep b h1 h2
theorem dp_freeze {G : Hp} {p : Addr} {xs : List V} (g0 : G p = none) (h : DpAll K G xs es) : Dp K (upd G p (.lst xs)) (.ref p) (.list es) := .lst (sq_of upd_same) (dpa_mono (Ex.new g0) h)
theorem dl_d (h : EvDL K te σ H es) : EvD K te σ H (.list es) := fun H1 x Q q => h H1 x Q fun p xs G H2 g0 h0 g hp ha => q _ _ H2 (gr_freeze g0 h0 g hp) (dp_freeze g0 ha)
theorem d_is (h : EvD K te σ H d) (x : d = e) : EvD K te σ H e := x ▸ h
theorem d_var {i : Nat} {v : V} (h : σ[i]? = some (some v)) (hd : Dp K H v d) : EvD K (tVar i) σ H d := fun H1 x Q q => ⟨v, h, q v H H1 (.refl x) hd⟩
theorem d_int {i : Int} : EvD K (tC (.int i)) σ H (.int i) := fun H1 x _ q => q _ H H1 (.refl x) (.int i)
theorem d_bl {b : Bool} : EvD K (tC (.bl b)) σ H (.bool b) := fun H1 x _ q => q _ H H1 (.refl x) (.bl b)
theorem d_non : EvD K (tC .non) σ H .none := fun H1 x _ q => q _ H H1 (.refl x) .non
theorem d_str {x : Str} : EvD K (tC (.str x)) σ H (.str x) := fun H1 x _ q => q _ H H1 (.refl x) (.str _)
theorem d_op (ha : EvD K ta σ H d) (hb : EvD K tb σ H e) (hr : ∀ G, Ex H G → RD K r d e G z) : EvD K (tOp r ta tb) σ H z := fun H1 x Q q =>
  ha H1 x _ fun v G2 H2 g2 h2 => hb.mono g2.hg H2 g2.g2 _ fun w G3 H3 g3 h3 => hr G3 (g2.hg.trans g3.hg) v w H3 g3.g2 (dp_mono g3.hg h2) h3 Q fun y G4 H4 g4 h4 => q y G4 H4 ((g2.trans g3).trans g4) h4
theorem d_un {r : V → Hp → VK → Prop} (ha : EvD K ta σ H d) (hr : ∀ G, Ex H G → RUD K r d G z) : EvD K (tUn r ta) σ H z := fun H1 x Q q =>
  ha H1 x _ fun v G2 H2 g2 h2 => hr G2 g2.hg v H2 g2.g2 h2 Q fun y G4 H4 g4 h4 => q y G4 H4 (g2.trans g4) h4
theorem rd_I0 {g : Int → Int → V} {i j : Int} (hz : ∀ H, Dp K H (g i j) z) : RD K (rI0 g) (.int i) (.int j) H z := fun x y H1 e hx hy Q q => ⟨i, j, hx.int_of, hy.int_of, q _ H H1 (.refl e) (hz H)⟩
theorem rd_int {g : Int → Int → Int} {i j : Int} : RD K (rI0 fun i j => .int (g i j)) (.int i) (.int j) H (.int (g i j)) := rd_I0 fun _ => .int _
theorem rd_cmp {g : Int → Int → Bool} {i j : Int} : RD K (rI0 fun i j => .bl (g i j)) (.int i) (.int j) H (.bool (g i j)) := rd_I0 fun _ => .bl _
theorem rd_intC {C : Int → Int → Prop} {g : Int → Int → Int} {i j : Int} (hc : C i j) : RD K (rI C fun i j => .int (g i j)) (.int i) (.int j) H (.int (g i j)) := fun x y H1 e hx hy Q q => ⟨i, j, hx.int_of, hy.int_of, hc, q _ H H1 (.refl e) (.int _)⟩
/-- scalars that may be compared: both ints, both texts, both bools, or one of them None -/
def scalD : PyData → PyData → Bool
  | .none, .none => true
  | .none, .int _ => true
  | .int _, .none => true
  | .none, .bool _ => true
  | .bool _, .none => true
  | .none, .str _ => true
  | .str _, .none => true
  | .int _, .int _ => true
  | .bool _, .bool _ => true
  | .str _, .str _ => true
  | _, _ => false
def eqS : PyData → PyData → Bool
  | .none, .none => true
  | .int i, .int j => decide (i = j)
  | .bool i, .bool j => decide (i = j)
  | .str i, .str j => decide (i = j)
  | _, _ => false
theorem scal_of {x y : V} (hx : Dp K H x d) (hy : Dp K H y e) (h : scalD d e = true) : scal x y = true ∧ decide (x = y) = eqS d e := by
  cases d <;> cases e <;> (first | (exfalso; exact Bool.noConfusion (show false = true from h)) | skip)
  · rw [hx.non_of, hy.non_of]; exact ⟨rfl, rfl⟩
  · rw [hx.non_of, hy.bl_of]; exact ⟨rfl, rfl⟩
  · rw [hx.non_of, hy.int_of]; exact ⟨rfl, rfl⟩
  · rw [hx.non_of, hy.str_of]; exact ⟨rfl, rfl⟩
  · rw [hx.bl_of, hy.non_of]; exact ⟨rfl, rfl⟩
  · rename_i a b
    rw [hx.bl_of, hy.bl_of]
    exact ⟨rfl, decide_eq_decide.mpr ⟨fun z => V.bl.inj z, fun z => by rw [z]⟩⟩
  · rw [hx.int_of, hy.non_of]; exact ⟨rfl, rfl⟩
  · rename_i a b
    rw [hx.int_of, hy.int_of]
    exact ⟨rfl, decide_eq_decide.mpr ⟨fun z => V.int.inj z, fun z => by rw [z]⟩⟩
  · rw [hx.str_of, hy.non_of]; exact ⟨rfl, rfl⟩
  · rename_i a b
    rw [hx.str_of, hy.str_of]
    exact ⟨rfl, decide_eq_decide.mpr ⟨fun z => V.str.inj z, fun z => by rw [z]⟩⟩
theorem rd_eq (h : scalD d e = true) : RD K rEq d e H (.bool (eqS d e)) := fun x y H1 ex hx hy Q q => by
  obtain ⟨h1, h2⟩ := scal_of hx hy h
  refine ⟨h1, ?_⟩
  rw [h2]
  exact q _ H H1 (.refl ex) (.bl _)
theorem rd_ne (h : scalD d e = true) : RD K rNe d e H (.bool (!eqS d e)) := fun x y H1 ex hx hy Q q => by
  obtain ⟨h1, h2⟩ := scal_of hx hy h
  refine ⟨h1, ?_⟩
  rw [h2]
  exact q _ H H1 (.refl ex) (.bl _)
def isNonD : PyData → Bool
  | .none => true
  | _ => false
theorem non_iff {x : V} (hx : Dp K H x d) : decide (x = .non) = isNonD d := by
  cases hx <;> rfl
theorem rd_isN : RD K (fun x y H Q => y = .non ∧ Q (.bl (decide (x = .non))) H) d .none H (.bool (isNonD d)) := fun x y H1 ex hx hy Q q => by
  refine ⟨hy.non_of, ?_⟩
  rw [non_iff hx]
  exact q _ H H1 (.refl ex) (.bl _)
theorem rd_notN : RD K (fun x y H Q => y = .non ∧ Q (.bl (!decide (x = .non))) H) d .none H (.bool (!isNonD d)) := fun x y H1 ex hx hy Q q => by
  refine ⟨hy.non_of, ?_⟩
  rw [non_iff hx]
  exact q _ H H1 (.refl ex) (.bl _)
theorem rd_eqD (h1 : SeqAt.shaped d = true) (h2 : SeqAt.shaped e = true) : RD K (rEqD K) d e H (.bool (PyData.eqv d e)) := fun x y H1 ex hx hy Q q => ⟨d, e, dp_mono ex hx, dp_mono ex hy, h1, h2, q _ H H1 (.refl ex) (.bl _)⟩
theorem rd_neD (h1 : SeqAt.shaped d = true) (h2 : SeqAt.shaped e = true) : RD K (rNeD K) d e H (.bool (!PyData.eqv d e)) := fun x y H1 ex hx hy Q q => ⟨d, e, dp_mono ex hx, dp_mono ex hy, h1, h2, q _ H H1 (.refl ex) (.bl _)⟩
theorem rd_isBl {a b : Bool} : RD K rIsB (.bool a) (.bool b) H (.bool (decide (a = b))) := fun x y H1 ex hx hy Q q => ⟨a, b, hx.bl_of, hy.bl_of, q _ H H1 (.refl ex) (.bl _)⟩
theorem rd_notBl {a b : Bool} : RD K rNotB (.bool a) (.bool b) H (.bool (!decide (a = b))) := fun x y H1 ex hx hy Q q => ⟨a, b, hx.bl_of, hy.bl_of, q _ H H1 (.refl ex) (.bl _)⟩
theorem rud_neg {i : Int} : RUD K (rU fun i => .int (-i)) (.int i) H (.int (-i)) := fun x H1 ex hx Q q => ⟨i, hx.int_of, q _ H H1 (.refl ex) (.int _)⟩

theorem da_nil : EvDA K tNil σ H [] := fun H1 x _ q => q [] H H1 (.refl x) .nil
theorem da_cons {tr : TA} (h : EvD K ta σ H d) (hr : EvDA K tr σ H ds) : EvDA K (tCons ta tr) σ H (d :: ds) := fun H1 x _ q =>
  h H1 x _ fun v G2 H2 g2 h2 => hr.mono g2.hg H2 g2.g2 _ fun vs G3 H3 g3 h3 => q (v :: vs) G3 H3 (g2.trans g3) (.cons (dp_mono g3.hg h2) h3)
theorem d_cb {r : List V → Hp → VK → Prop} {ta : TA} (h : EvDA K ta σ H ds) (hr : ∀ G, Ex H G → RCD K r ds G z) : EvD K (tCB r ta) σ H z := fun H1 x Q q =>
  h H1 x _ fun vs G2 H2 g2 h2 => hr G2 g2.hg vs H2 g2.g2 h2 Q fun v G3 H3 g3 h3 => q v G3 H3 (g2.trans g3) h3
theorem dl_cb {r : List V → Hp → VK → Prop} {ta : TA} (h : EvDA K ta σ H ds) (hr : ∀ G, Ex H G → RCDL K r ds G es) : EvDL K (tCB r ta) σ H es := fun H1 x Q q =>
  h H1 x _ fun vs G2 H2 g2 h2 => hr G2 g2.hg vs H2 g2.g2 h2 Q fun p xs G3 H3 g0 h0 g3 h3 h4 => q p xs G3 H3 g0 (fresh_back g2.h12 h0) (g2.trans g3) h3 h4
theorem d_call {sp : Sp} {dvs : List V} {E : XK} {ta : TA} (h : EvDA K ta σ H ds) (hs : SpD K sp dvs ds z) : EvD K (tCall sp dvs E ta) σ H z := fun H1 x Q q =>
  h H1 x _ fun vs G2 H2 g2 h2 => hs vs G2 H2 g2.g2 h2 Q E fun v G3 H3 g3 h3 => q v G3 H3 (g2.trans g3) h3
theorem dl_call {sp : Sp} {dvs : List V} {E : XK} {ta : TA} (h : EvDA K ta σ H ds) (hs : SpDL K sp dvs ds es) : EvDL K (tCall sp dvs E ta) σ H es := fun H1 x Q q =>
  h H1 x _ fun vs G2 H2 g2 h2 => hs vs G2 H2 g2.g2 h2 Q E fun p xs G H3 g0 h0 g1 h3 h4 => q p xs G H3 g0 (fresh_back g2.h12 h0) (g2.trans g1) h3 h4
theorem sp_P {n : Nat} {R : List PyData → PyData → Prop} (hn : ds.length = n) (h : R ds z) : SpD K (spP K n R) [] ds z := fun vs H H1 x hd Q E q => ⟨H, ds, z, x, hn, by rw [List.append_nil]; exact hd, h, q⟩
theorem sp_PL {n : Nat} {R : List PyData → List PyData → Prop} (hn : ds.length = n) (h : R ds es) : SpDL K (spPL K n R) [] ds es := fun vs H H1 x hd Q E q => ⟨H, ds, es, x, hn, by rw [List.append_nil]; exact hd, h, q⟩
/-- displays -/
theorem d_tup {ta : TA} (h : EvDA K ta σ H ds) (hl : ds.length ≤ 100000) : EvD K (tTup ta) σ H (.tuple ds) := fun H1 x _ q =>
  h H1 x _ fun vs G2 H2 g2 h2 => ⟨sz_of (by rw [DpAll.length h2]; exact hl), fun p hp => q _ _ _ (g2.trans (Gr.new g2.g2 hp)) (.tup (st_of upd_same) (dpa_mono (Ex.new (fresh_back g2.g2 hp)) h2))⟩
theorem dl_lst {ta : TA} (h : EvDA K ta σ H ds) (hl : ds.length ≤ 100000) : EvDL K (tLst ta) σ H ds := fun H1 x _ q =>
  h H1 x _ fun vs G2 H2 g2 h2 => ⟨sz_of (by rw [DpAll.length h2]; exact hl), fun p hp => q p vs G2 _ (fresh_back g2.g2 hp) (fresh_back g2.h12 hp) (g2.trans (Gr.mut g2.g2 hp)) upd_same h2⟩
/-- tests -/
theorem t_val {b : Bool} (h : EvD K te σ H (.bool b)) : EvT (tB te) σ H b := fun H1 x Q q => h H1 x _ fun v G H2 g h2 => ⟨b, h2.bl_of, q H2 g.h12⟩
theorem d_if {b : Bool} (h : EvT t σ H b) (h1 : b = true → EvD K ta σ H d) (h2 : b = false → EvD K tb σ H d) : EvD K (tIf t ta tb) σ H d := fun H1 x Q q => h H1 x _ fun H2 e2 => by
  cases b with
  | true => exact h1 rfl H2 (x.trans e2) Q fun v G H3 g h3 => q v G H3 ⟨g.hg, g.g2, e2.trans g.h12, fun b y1 y2 => g.sep b y1 fun z => y2 (fresh_back e2 z)⟩ h3
  | false => exact h2 rfl H2 (x.trans e2) Q fun v G H3 g h3 => q v G H3 ⟨g.hg, g.g2, e2.trans g.h12, fun b y1 y2 => g.sep b y1 fun z => y2 (fresh_back e2 z)⟩ h3
theorem d_and {a b : Bool} (h1 : EvD K ta σ H (.bool a)) (h2 : a = true → EvD K tb σ H (.bool b)) : EvD K (tAndV ta tb) σ H (.bool (a && b)) := fun H1 x Q q => h1 H1 x _ fun v G2 H2 g2 hv => ⟨a, hv.bl_of, by
  cases a with
  | true => exact (h2 rfl).mono g2.hg H2 g2.g2 Q fun w G3 H3 g3 h3 => q w G3 H3 (g2.trans g3) h3
  | false => exact q _ G2 H2 g2 (.bl false)⟩
theorem d_or {a b : Bool} (h1 : EvD K ta σ H (.bool a)) (h2 : a = false → EvD K tb σ H (.bool b)) : EvD K (tOrV ta tb) σ H (.bool (a || b)) := fun H1 x Q q => h1 H1 x _ fun v G2 H2 g2 hv => ⟨a, hv.bl_of, by
  cases a with
  | false => exact (h2 rfl).mono g2.hg H2 g2.g2 Q fun w G3 H3 g3 h3 => q w G3 H3 (g2.trans g3) h3
  | true => exact q _ G2 H2 g2 (.bl true)⟩
theorem d_not {a : Bool} (h1 : EvD K ta σ H (.bool a)) : EvD K (tNotV ta) σ H (.bool (!a)) := fun H1 x Q q => h1 H1 x _ fun v G2 H2 g2 hv => ⟨a, hv.bl_of, q _ G2 H2 g2 (.bl _)⟩
end

/-! ### statements: B is what is known for good -/
section
variable {K : PySem.W.Frag} {σ : L2.St} {B H H' : Hp} {ta tb te tx : TE} {t u : TT} {d e z : PyData} {ds es : List PyData} {D : Ends} {tu tw tz : TS} {g : TG}
theorem sd_asg {i : Nat} (x : Ex B H) (h : EvD K te σ B d) (k : ∀ v G H1, Gr B H G H1 → Dp K G v d → D.nx (σ.set i (some v)) H1) : tAsg te (gName i) D σ H := h H x _ k
theorem sd_ret (x : Ex B H) (h : EvD K te σ B d) (k : ∀ v G H1, Gr B H G H1 → Dp K G v d → D.rt v H1) : tRet te D σ H := h H x _ k
theorem sd_retL (x : Ex B H) (h : EvDL K te σ B es) (k : ∀ p xs G H2, G p = none → H p = none → Gr B H G H2 → H2 p = some (.lst xs) → DpAll K G xs es → D.rt (.ref p) H2) : tRet te D σ H := h H x _ k
theorem sd_asgL {i : Nat} (x : Ex B H) (h : EvDL K te σ B es) (k : ∀ p xs G H2, G p = none → H p = none → Gr B H G H2 → H2 p = some (.lst xs) → DpAll K G xs es → D.nx (σ.set i (some (.ref p))) H2) : tAsg te (gName i) D σ H := h H x _ k
theorem sd_drop (x : Ex B H) (h : EvD K te σ B d) (k : ∀ H1, Ex H H1 → D.nx σ H1) : tDrop te D σ H := h H x _ fun _ G H1 g _ => k H1 g.h12
theorem qd_asg {i : Nat} (x : Ex B H) (h : EvD K te σ B d) (k : ∀ v G H1, Gr B H G H1 → Dp K G v d → tz D (σ.set i (some v)) H1) : tSeq (tAsg te (gName i)) tz D σ H := sd_asg (D := { D with nx := tz D }) x h k
theorem qd_asgL {i : Nat} (x : Ex B H) (h : EvDL K te σ B es) (k : ∀ p xs G H2, G p = none → H p = none → Gr B H G H2 → H2 p = some (.lst xs) → DpAll K G xs es → tz D (σ.set i (some (.ref p))) H2) : tSeq (tAsg te (gName i)) tz D σ H := sd_asgL (D := { D with nx := tz D }) x h k
theorem qd_drop (x : Ex B H) (h : EvD K te σ B d) (k : ∀ H1, Ex H H1 → tz D σ H1) : tSeq (tDrop te) tz D σ H := sd_drop (D := { D with nx := tz D }) x h k
theorem sd_if {b : Bool} (x : Ex B H) (h : EvT t σ B b) (h1 : b = true → ∀ H1, Ex H H1 → tu D σ H1) (h2 : b = false → ∀ H1, Ex H H1 → tw D σ H1) : tIfS t tu tw D σ H := s_if (fun H1 a Q q => h H1 (x.trans a) Q q) h1 h2
theorem qd_if {b : Bool} (x : Ex B H) (h : EvT t σ B b) (h1 : b = true → ∀ H1, Ex H H1 → tu { D with nx := tz D } σ H1) (h2 : b = false → ∀ H1, Ex H H1 → tw { D with nx := tz D } σ H1) : tSeq (tIfS t tu tw) tz D σ H := sd_if (D := { D with nx := tz D }) x h h1 h2
theorem qd_when {b : Bool} (x : Ex B H) (h : EvT t σ B b) (h1 : b = true → ∀ H1, Ex H H1 → tu { D with nx := tz D } σ H1) (h2 : b = false → ∀ H1, Ex H H1 → tz D σ H1) : tSeq (tIfS t tu tNext) tz D σ H := sd_if (D := { D with nx := tz D }) x h h1 h2
theorem sd_when {b : Bool} (x : Ex B H) (h : EvT t σ B b) (h1 : b = true → ∀ H1, Ex H H1 → tu D σ H1) (h2 : b = false → ∀ H1, Ex H H1 → D.nx σ H1) : tIfS t tu tNext D σ H := sd_if x h h1 h2
/-- if a: (never) -/
theorem qd_no {y : TS} (x : Ex B H) (h : EvT t σ B false) (k : ∀ H1, Ex H H1 → tz D σ H1) : tSeq (tIfS t y tNext) tz D σ H := qd_when x h (fun z => Bool.noConfusion z) fun _ => k
theorem sd_no {y : TS} (x : Ex B H) (h : EvT t σ B false) (k : ∀ H1, Ex H H1 → D.nx σ H1) : tIfS t y tNext D σ H := sd_when x h (fun z => Bool.noConfusion z) fun _ => k
end

/-! ### a row that is walked, a row that is unpacked -/
def iRow (K : PySem.W.Frag) (tl : TE) : TI := fun σ H R => tl σ H fun x H1 => ∃ a, x = .ref a ∧ (((∃ xs, SqL K H1 a xs) ∧ R (Itl K a) H1) ∨ ((∃ xs, SqT K H1 a xs) ∧ R (Itt K a) H1))
theorem pi_row {X : Cx} {tg l : Expr} {tl : TE} (hl : PE X l tl) : PI X tg l (iRow X.K tl) := by
  refine ⟨fun pns st σ H R I0 h => thn (hl.run pns st σ H _ I0 h) fun u st1 ⟨x, Hn, In, rx, q1⟩ => ?_⟩
  obtain ⟨a, ex, q⟩ := q1
  subst ex
  cases rx
  have fresh : ∀ b ∈ [st1.heap.objs.size], FpOk X pns Hn b := fun b hb => by
    rw [List.mem_singleton.mp hb]
    exact In.fpOk (Nat.le_refl _) (In.hok.fresh (Nat.le_refl _))
  rcases q with ⟨⟨xs, hq⟩, q⟩ | ⟨⟨xs, hq⟩, q⟩
  · obtain ⟨its, _, pl, _⟩ := In.list hq
    exact wpAny_pyIter_list pl.isList ⟨_, [st1.heap.objs.size], _, _, Hn, rfl, In.kept (t' := st1.toks) (fun _ _ z => Heap.get?_push_of_some _ z), turn_list a _, ⟨_, Heap.get?_push_size _ rfl, rfl, rfl⟩, fresh, q⟩
  · obtain ⟨its, _, pl, _⟩ := In.tuple hq
    exact wpAny_pyIter_tuple (show st1.heap.IsTuple a its.toArray from pl) ⟨_, [st1.heap.objs.size], _, _, Hn, rfl, In.kept (t' := st1.toks) (fun _ _ z => Heap.get?_push_of_some _ z), turn_tuple a _, ⟨_, Heap.get?_push_size _ rfl, rfl, rfl⟩, fresh, q⟩
def gRow (K : PySem.W.Frag) (n : Nat) (t : TGs) : TG := fun v σ H Q => ∃ a xs, v = .ref a ∧ Row K H a xs ∧ xs.length = n ∧ t xs σ H Q
theorem pg_row {X : Cx} {pos : Pos} {es : List Expr} {k : Nat} {t : TGs} {n : Nat} (hc : X.calm = true) (h : PGs X es t)
    (hn : (assignEach es X.env).length = n := by rfl) (hst : (assignEach es X.env).findIdx? (·.1) = none := by rfl) : PG X (.Tuple es k pos) (gRow X.K n t) := by
  refine ⟨fun pins s σ H v u Q I r hw => ?_⟩
  obtain ⟨a, xs, e1, hq, hl, hw⟩ := hw
  rcases hq with hq | hq
  · exact (pg_unl hc h hn hst).run pins s σ H v u Q I r ⟨a, xs, e1, hq, hl, hw⟩
  · exact (pg_tup hc h hn hst).run pins s σ H v u Q I r ⟨a, xs, e1, hq, hl, hw⟩
/-- (i, j) = a pair -/
theorem g_pair {K : PySem.W.Frag} {H : Hp} {σ : L2.St} {v : V} {b : Bool} {d e : PyData} {i j : Nat} {Q : L2.St → Hp → Prop} (h : Dp K H v (rows b [d, e]))
    (k : ∀ x y, Dp K H x d → Dp K H y e → Q ((σ.set i (some x)).set j (some y)) H) : gRow K 2 (gCons (gName i) (gCons (gName j) gNil)) v σ H Q := by
  obtain ⟨a, xs, e1, hr, ha⟩ := row_of h
  cases ha with
  | cons h1 a1 =>
    cases a1 with
    | cons h2 a2 =>
      cases a2
      exact ⟨a, _, e1, hr, rfl, _, _, rfl, _, _, rfl, rfl, k _ _ h1 h2⟩

section
variable {K : PySem.W.Frag} {σ : L2.St} {G H H' : Hp} {D : Ends} {tu tz : TS} {g : TG} {ds : List PyData} {b : Bool} {v : V}
/-- for .. in a row that G knows, at the j-th slot -/
theorem sd_for {j : Nat} (e : Ex G H) (hd : Dp K G v (rows b ds)) (hv : σ[j]? = some (some v)) (Pv : Nat → L2.St → Hp → Prop) (h0 : Pv 0 σ H) (hG : ∀ i σ' H', i ≤ ds.length → Pv i σ' H' → Ex G H')
    (hs : ∀ i d x σ' H', ds[i]? = some d → Dp K G x d → Pv i σ' H' → g x σ' H' fun σ2 H2 => tu { D with nx := Pv (i + 1), ct := Pv (i + 1), bk := D.nx } σ2 H2)
    (hn : ∀ σ' H', Pv ds.length σ' H' → D.nx σ' H') : tFor (iRow K (tVar j)) g tu D σ H := by
  obtain ⟨a, xs, rfl, hr, ha⟩ := row_of hd
  have hl := ha.length
  refine ⟨_, hv, a, rfl, ?_⟩
  rcases hr with hr | hr
  · refine .inl ⟨⟨xs, ex_l e hr⟩, for_list (xs := xs) Pv h0 (fun i σ' H' hi p => ex_l (hG i σ' H' (by omega) p) hr) (fun i x σ' H' hx p => ?_) (by rw [hl]; exact hn)⟩
    obtain ⟨d, h1, h2⟩ := ha.get hx
    exact hs i d x σ' H' h1 h2 p
  · refine .inr ⟨⟨xs, ex_t e hr⟩, for_tup (xs := xs) Pv h0 (fun i σ' H' hi p => ex_t (hG i σ' H' (by omega) p) hr) (fun i x σ' H' hx p => ?_) (by rw [hl]; exact hn)⟩
    obtain ⟨d, h1, h2⟩ := ha.get hx
    exact hs i d x σ' H' h1 h2 p
theorem qd_for {j : Nat} (e : Ex G H) (hd : Dp K G v (rows b ds)) (hv : σ[j]? = some (some v)) (Pv : Nat → L2.St → Hp → Prop) (h0 : Pv 0 σ H) (hG : ∀ i σ' H', i ≤ ds.length → Pv i σ' H' → Ex G H')
    (hs : ∀ i d x σ' H', ds[i]? = some d → Dp K G x d → Pv i σ' H' → g x σ' H' fun σ2 H2 => tu { D with nx := Pv (i + 1), ct := Pv (i + 1), bk := tz D } σ2 H2)
    (hn : ∀ σ' H', Pv ds.length σ' H' → tz D σ' H') : tSeq (tFor (iRow K (tVar j)) g tu) tz D σ H := sd_for (D := { D with nx := tz D }) e hd hv Pv h0 hG hs hn
end
end Tb
end

section
set_option Elab.async false
set_option linter.all false
set_option maxRecDepth 100000
set_option maxHeartbeats 1000000
/-! Toss base 3: enumerate over a row, with a start or none. -/
namespace Tb
open PySem PySem.Spec PyProof.Rows L2 Evl

theorem meets_enum1 {v : Value} {ob : Obj} {Hs : Heap → Prop} (B : Begins v ob Hs) :
    Meets (Builtin.«enumerate.__new__» ⟨[.type "enumerate", v], []⟩) (fun _ Rr st => Hs st.heap ∧
      Rr (.ok (.ret (.ref (st.heap.push ob).objs.size))) { st with heap := (st.heap.push ob).push { cls := .type "enumerate", data := .fields #[.none, .bool false, .ref st.heap.objs.size, rawInt 0, .none, .none] } }) :=
  .of_wp fun prog w A R st hh => by
    obtain ⟨hp, gg, dd, tk, os⟩ := st
    obtain ⟨h1, hh⟩ := hh
    have hsub := sub_enumerate
    have q1 : ∀ {A' : Around} {E' : Value → Shared → Prop} {Q' : Value → Shared → Prop}, Q' (.ref hp.objs.size) ⟨hp.push ob, gg, dd, tk, os⟩ → wpAny (model prog w) A' (pyIter v) Q' E' ⟨hp, gg, dd, tk, os⟩ :=
      fun q => B.iter prog w _ _ ⟨hp, gg, dd, tk, os⟩ _ h1 q
    wp_walk using q1
    refine wpAny_stack_any fun _ => wpAny_pure ?_
    split
    · rename_i cc _ _ _ _ _
      cases (cc == Value.type "enumerate") <;> (wp_walk using q1; exact ⟨_, rfl, hh⟩)
    · wp_walk using q1
      exact ⟨_, rfl, hh⟩
theorem enum_begins1 {prog : Program} {w : World} {A : Around} {E : Value → Shared → Prop} {st : Shared} {v : Value} {ob : Obj} {Hs : Heap → Prop} {Q : Value → Shared → Prop} (B : Begins v ob Hs) (h1 : Hs st.heap)
    (k : ∀ h', IsEnum h' (st.heap.objs.size + 1) st.heap.objs.size 0 .none → h'.get? st.heap.objs.size = some ob → (∀ b u, st.heap.get? b = some u → h'.get? b = some u) → Q (.ref (st.heap.objs.size + 1)) { st with heap := h' }) :
    wpAny (model prog w) A (call (.type "enumerate") [v]) Q E st := by
  refine callType_new F.called_enumerate (by decide) (F.typeCall_enumerate_1 _) (F.newCall_enumerate_1 _) (fun u => F.args_object_init_2 u _) F.entry_enumerate_new (meets_enum1 B) ⟨h1, ?_⟩
  have hz : (st.heap.push ob).objs.size = st.heap.objs.size + 1 := Heap.size_push ..
  show _ ∧ _
  rw [hz]
  have he : IsEnum ((st.heap.push ob).push { cls := .type "enumerate", data := .fields #[.none, .bool false, .ref st.heap.objs.size, rawInt 0, .none, .none] }) (st.heap.objs.size + 1) st.heap.objs.size 0 .none := by
    have z := Heap.get?_push_size (st.heap.push ob) (o := { cls := .type "enumerate", data := .fields #[.none, .bool false, .ref st.heap.objs.size, rawInt 0, .none, .none] }) rfl
    rw [hz] at z
    exact z
  exact ⟨⟨_, he, rfl⟩, k _ he (Heap.get?_push_of_some _ (Heap.get?_push_size _ B.free)) fun b u z => Heap.get?_push_of_some _ (Heap.get?_push_of_some _ z)⟩

/-! ### the turns -/
def IteL (K : PySem.W.Frag) (a : Addr) (k0 : Int) : It :=
  ⟨fun i H => ∃ xs x, SqL K H a xs ∧ xs[i]? = some x, fun i H v H' => ∃ T x, v = .ref T ∧ H T = none ∧ H' = upd H T (.tup [.int (k0 + (i : Nat)), x]) ∧ ∀ xs, SqL K H a xs → xs[i]? = some x, fun i H => ∃ xs, SqL K H a xs ∧ xs.length = i⟩
def IteT (K : PySem.W.Frag) (a : Addr) (k0 : Int) : It :=
  ⟨fun i H => ∃ xs x, SqT K H a xs ∧ xs[i]? = some x, fun i H v H' => ∃ T x, v = .ref T ∧ H T = none ∧ H' = upd H T (.tup [.int (k0 + (i : Nat)), x]) ∧ ∀ xs, SqT K H a xs → xs[i]? = some x, fun i H => ∃ xs, SqT K H a xs ∧ xs.length = i⟩
/-- one turn, whatever is walked -/
theorem enum_turn {X : Cx} {pins : List (Addr × Obj)} {σ : L2.St} {H : Hp} {st : Shared} {E : Value → Shared → Prop} {elts : List Expr} {kk : Nat} {tpos : Pos} {e it : Addr} {fp : List Addr} {n i : Nat} {P : Nat → Value → Prop} {Sx : Nat → Heap → Prop} {k0 : Int} {x : V}
    (I : Inv X pins σ H st) (D : Draws X.prog X.w X.A.in1 it fp n P Sx) (hf : ∀ b ∈ [e, it], FpOk X pins H b) (he : ∃ old, IsEnum st.heap e it (k0 + (i : Nat)) old) (hs : Sx i st.heap) (hi : i < n) (hne : e ≠ it) (hef : e ∉ fp) (hr : ∀ u, P i u → RelV x u)
    {R : Heap → Prop} (keepR : ∀ h h', Sx (i + 1) h → Heap.SameBut e h h' → R h') :
    wpAny (model X.prog X.w) X.A (pyNext (.ref e)) (fun r s1 => ∃ u, r = some u ∧
      wpAny (model X.prog X.w) X.A (letOwnedTupleGo (.Tuple elts kk tpos) (.ref e) u) (fun _ s2 => ∃ v H', Inv X pins σ H' s2 ∧ RelV v u ∧ (∃ T, v = .ref T ∧ H T = none ∧ H' = upd H T (.tup [.int (k0 + (i : Nat)), x])) ∧
        ((∃ old, IsEnum s2.heap e it (k0 + ((i + 1 : Nat) : Int)) old) ∧ R s2.heap) ∧ ∀ b ∈ [e, it], H' b = none) E s1) E st := by
  obtain ⟨old, he⟩ := he
  have hel : e < st.heap.objs.size := Heap.lt_size he
  have hil : it < st.heap.objs.size := by
    obtain ⟨_, z⟩ := D.live _ _ hs
    exact Heap.lt_size z
  refine wpAny_pyNext_enum_itemC D he hs hi hne hef fun u h' tk hP ho hs' hT hsz hk => ?_
  refine ⟨_, rfl, wpAny_letOwnedTupleGo_enum (s := { st with heap := h', toks := tk + 1 }) ho fun h2 he2 sb => ?_⟩
  have hT2 : h2.get? st.heap.objs.size = some { cls := .type "tuple", data := .seq #[.int (k0 + (i : Nat)) tk, u] } := (sb.2 _ (Nat.ne_of_gt hel)).trans hT
  have new : ObjOk X.prog X.w (upd H st.heap.objs.size (.tup [.int (k0 + (i : Nat)), x])) h2 st.heap.objs.size (.tup [.int (k0 + (i : Nat)), x]) :=
    ⟨by show 2 ≤ sizeLine; decide, [.int (k0 + (i : Nat)) tk, u], .cons ⟨_, rfl⟩ (.cons (hr u hP) .nil), ⟨_, hT2, rfl, _, rfl⟩⟩
  have I1 : Inv X pins σ (upd H st.heap.objs.size (.tup [.int (k0 + (i : Nat)), x])) { st with heap := h2, toks := tk + 1 } :=
    I.turnedNew (ch := [e, it]) (fun b ob hb q => (sb.2 b (fun z => hb (by simp [z]))).trans (hk b ob (fun z => hb (by simp [z])) (fun z => hb (by simp [z])) q)) hf (Nat.le_refl _) new
  refine ⟨.ref st.heap.objs.size, _, I1, rfl, ⟨_, rfl, I.hok.fresh (Nat.le_refl _), rfl⟩, ⟨⟨u, ?_⟩, keepR _ _ hs' sb⟩, fun b hb => ?_⟩
  · have e1 : k0 + ((i + 1 : Nat) : Int) = k0 + (i : Nat) + 1 := by omega
    rw [e1]
    exact he2
  · have hb' : b < st.heap.objs.size := by
      have z : b = e ∨ b = it := by simpa using hb
      rcases z with z | z
      · rw [z]; exact hel
      · rw [z]; exact hil
    rw [upd_ne (Nat.ne_of_lt hb')]
    exact (hf b hb).1
theorem turn_enumL {P : Program} {w : World} {K : PySem.W.Frag} {elts : List Expr} {kk : Nat} {tpos : Pos} (k0 : Int) (a e it : Addr) (hae : a ≠ e) (hai : a ≠ it) :
    Turn P w K (.Tuple elts kk tpos) (IteL K a k0) [e, it] e (fun i h => (∃ old, IsEnum h e it (k0 + (i : Nat)) old) ∧ h.IsListIter it a i ∧ e ≠ it) where
  mem := by simp
  obj := fun i h z b hb => by
    obtain ⟨⟨old, he⟩, ⟨o, ho, hc, hd⟩, _⟩ := z
    have e' : b = e ∨ b = it := by simpa using hb
    rcases e' with z | z
    · rw [z]; exact ⟨_, he, fun v q => nomatch q⟩
    · rw [z]; exact ⟨o, ho, fun v q => by rw [hd] at q; cases q⟩
  keep := fun i h h' z k => by
    obtain ⟨⟨old, he⟩, hi, hne⟩ := z
    exact ⟨⟨old, k e (by simp) _ he⟩, hi.at fun o q => k it (by simp) o q, hne⟩
  item := by
    intro X hP hw hK hc i pins s σ H E I hf st hg
    subst hP hw hK
    obtain ⟨he, hit, hne⟩ := st
    obtain ⟨xs, x, hq, hx⟩ := hg
    obtain ⟨its, rv, p, hz⟩ := I.list hq
    obtain ⟨u, hu, ru⟩ := rv.get hx
    have hul : its.toArray[i]? = some u := by simpa using hu
    have hlt : i < its.toArray.size := (Array.getElem?_eq_some_iff.mp hul).1
    refine wpAny_mono (enum_turn (elts := elts) (kk := kk) (tpos := tpos) (R := fun h => h.IsListIter it a (i + 1)) I (Draws.list (by exact I.ok.hd hc) it a hai its.toArray) hf he ⟨hit, p.isList⟩ hlt hne (by simp [hne, hae.symm]) (x := x) (fun u' h' => ?_) (fun h h' hs sb => hs.1.at fun o q => (sb.2 it hne.symm).trans q)) (fun r s1 h => ?_) fun _ _ z => z
    · have e1 : u' = u := Option.some.inj (h'.symm.trans hul)
      rw [e1]
      exact ru
    · obtain ⟨u', er, q⟩ := h
      refine ⟨u', er, wpAny_mono q (fun _ s2 h2 => ?_) fun _ _ z => z⟩
      obtain ⟨v, H', I', rv', ⟨T, e1, e2, e3⟩, ⟨z1, z2⟩, z3⟩ := h2
      exact ⟨v, H', I', rv', ⟨T, x, e1, e2, e3, fun ys hy => by rw [I.list_inj hy hq]; exact hx⟩, ⟨z1, z2, hne⟩, z3⟩
  done := by
    intro X hP hw hK hc i pins s σ H E I hf st hg
    subst hP hw hK
    obtain ⟨⟨old, he⟩, hit, hne⟩ := st
    obtain ⟨xs, hq, hx⟩ := hg
    obtain ⟨its, rv, p, hz⟩ := I.list hq
    obtain ⟨f0, f1, f2, f3, f4, f5⟩ := hf it (by simp)
    have hl : i = its.toArray.size := by
      have := rv.length
      simp only [List.size_toArray]
      omega
    subst hl
    exact wpAny_pyNext_enum_endD (Draws.list (by exact I.ok.hd hc) it a hai its.toArray) he ⟨hit, p.isList⟩ fun h' eb => ⟨rfl, I.turned (t' := s.toks) (fun b o hb q => eb b o hb q) f0 f1 f3 f4 f5⟩
  self := fun A i s Q E z hQ => by
    obtain ⟨⟨old, he⟩, _⟩ := z
    exact wpAny_pyIter_enum he hQ
theorem turn_enumT {P : Program} {w : World} {K : PySem.W.Frag} {elts : List Expr} {kk : Nat} {tpos : Pos} (k0 : Int) (a e it : Addr) (hae : a ≠ e) (hai : a ≠ it) :
    Turn P w K (.Tuple elts kk tpos) (IteT K a k0) [e, it] e (fun i h => (∃ old, IsEnum h e it (k0 + (i : Nat)) old) ∧ h.IsTupleIter it a i ∧ e ≠ it) where
  mem := by simp
  obj := fun i h z b hb => by
    obtain ⟨⟨old, he⟩, ⟨o, ho, hc, hd⟩, _⟩ := z
    have e' : b = e ∨ b = it := by simpa using hb
    rcases e' with z | z
    · rw [z]; exact ⟨_, he, fun v q => nomatch q⟩
    · rw [z]; exact ⟨o, ho, fun v q => by rw [hd] at q; cases q⟩
  keep := fun i h h' z k => by
    obtain ⟨⟨old, he⟩, hi, hne⟩ := z
    exact ⟨⟨old, k e (by simp) _ he⟩, hi.at fun o q => k it (by simp) o q, hne⟩
  item := by
    intro X hP hw hK hc i pins s σ H E I hf st hg
    subst hP hw hK
    obtain ⟨he, hit, hne⟩ := st
    obtain ⟨xs, x, hq, hx⟩ := hg
    obtain ⟨its, rv, p, hz⟩ := I.tuple hq
    obtain ⟨u, hu, ru⟩ := rv.get hx
    have hul : its.toArray[i]? = some u := by simpa using hu
    have hlt : i < its.toArray.size := (Array.getElem?_eq_some_iff.mp hul).1
    refine wpAny_mono (enum_turn (elts := elts) (kk := kk) (tpos := tpos) (R := fun h => h.IsTupleIter it a (i + 1)) I (Draws.tuple (by exact I.ok.hd hc) it a hai its.toArray) hf he ⟨hit, (show s.heap.IsTuple a its.toArray from p)⟩ hlt hne (by simp [hne, hae.symm]) (x := x) (fun u' h' => ?_) (fun h h' hs sb => hs.1.at fun o q => (sb.2 it hne.symm).trans q)) (fun r s1 h => ?_) fun _ _ z => z
    · have e1 : u' = u := Option.some.inj (h'.symm.trans hul)
      rw [e1]
      exact ru
    · obtain ⟨u', er, q⟩ := h
      refine ⟨u', er, wpAny_mono q (fun _ s2 h2 => ?_) fun _ _ z => z⟩
      obtain ⟨v, H', I', rv', ⟨T, e1, e2, e3⟩, ⟨z1, z2⟩, z3⟩ := h2
      exact ⟨v, H', I', rv', ⟨T, x, e1, e2, e3, fun ys hy => by rw [I.tuple_inj hy hq]; exact hx⟩, ⟨z1, z2, hne⟩, z3⟩
  done := by
    intro X hP hw hK hc i pins s σ H E I hf st hg
    subst hP hw hK
    obtain ⟨⟨old, he⟩, hit, hne⟩ := st
    obtain ⟨xs, hq, hx⟩ := hg
    obtain ⟨its, rv, p, hz⟩ := I.tuple hq
    obtain ⟨f0, f1, f2, f3, f4, f5⟩ := hf it (by simp)
    have hl : i = its.toArray.size := by
      have := rv.length
      simp only [List.size_toArray]
      omega
    subst hl
    exact wpAny_pyNext_enum_endD (Draws.tuple (by exact I.ok.hd hc) it a hai its.toArray) he ⟨hit, (show s.heap.IsTuple a its.toArray from p)⟩ fun h' eb => ⟨rfl, I.turned (t' := s.toks) (fun b o hb q => eb b o hb q) f0 f1 f3 f4 f5⟩
  self := fun A i s Q E z hQ => by
    obtain ⟨⟨old, he⟩, _⟩ := z
    exact wpAny_pyIter_enum he hQ

/-! ### enumerate(row), enumerate(row, start=k) -/
/-- what is walked: a list or a tuple, counted from k0 -/
def rEnum (K : PySem.W.Frag) (k0 : Int) (R : It → Hp → Prop) : V → Hp → Prop := fun v H1 => ∃ a, v = .ref a ∧ (((∃ xs, SqL K H1 a xs) ∧ R (IteL K a k0) H1) ∨ ((∃ xs, SqT K H1 a xs) ∧ R (IteT K a k0) H1))
theorem enum_made {X : Cx} {pins : List (Addr × Obj)} {σ : L2.St} {H : Hp} {st : Shared} {E : Value → Shared → Prop} {elts : List Expr} {kk : Nat} {tpos : Pos} {R : It → Hp → Prop} {v : V} {u : Value} {k0 : Int} {f : Sem Value}
    (I : Inv X pins σ H st) (rv : RelV v u) (q : rEnum X.K k0 R v H)
    (hf : ∀ (ob : Obj) (Hs : Heap → Prop), Begins u ob Hs → Hs st.heap → ∀ Q : Value → Shared → Prop, (∀ h', IsEnum h' (st.heap.objs.size + 1) st.heap.objs.size k0 .none → h'.get? st.heap.objs.size = some ob → (∀ b o, st.heap.get? b = some o → h'.get? b = some o) → Q (.ref (st.heap.objs.size + 1)) { st with heap := h' }) →
      wpAny (model X.prog X.w) X.A f Q E st) :
    wpAny (model X.prog X.w) X.A f (fun itv s1 => wpAny (model X.prog X.w) X.A (pyIter itv) (PIE X pins σ (.Tuple elts kk tpos) R) E s1) E st := by
  obtain ⟨a, ev, q⟩ := q
  subst ev
  cases rv
  have big : ∀ b ∈ [st.heap.objs.size + 1, st.heap.objs.size], FpOk X pins H b := fun b hb => by
    have e' : b = st.heap.objs.size + 1 ∨ b = st.heap.objs.size := by simpa using hb
    have hle : st.heap.objs.size ≤ b := by
      rcases e' with z | z
      · rw [z]; exact Nat.le_add_right _ _
      · rw [z]; exact Nat.le_refl _
    exact I.fpOk hle (I.hok.fresh hle)
  have e0 : k0 + ((0 : Nat) : Int) = k0 := Int.add_zero _
  rcases q with ⟨⟨xs, hq⟩, q⟩ | ⟨⟨xs, hq⟩, q⟩
  · obtain ⟨its, _, pl, _⟩ := I.list hq
    have hl := pl.isList
    have hal : a < st.heap.objs.size := by
      obtain ⟨o, z, _⟩ := hl
      exact Heap.lt_size z
    refine hf _ _ (begins_list a its.toArray) hl _ fun h' he ho hk => wpAny_pyIter_enum he ?_
    exact ⟨st.heap.objs.size + 1, [st.heap.objs.size + 1, st.heap.objs.size], _, _, H, rfl, I.kept (t' := st.toks) hk, turn_enumL k0 a _ _ (Nat.ne_of_lt (Nat.lt_succ_of_lt hal)) (Nat.ne_of_lt hal), ⟨⟨.none, by rw [e0]; exact he⟩, ⟨_, ho, rfl, rfl⟩, Nat.succ_ne_self _⟩, big, q⟩
  · obtain ⟨its, _, pl, _⟩ := I.tuple hq
    have hl : st.heap.IsTuple a its.toArray := pl
    have hal : a < st.heap.objs.size := pl.lt
    refine hf _ _ (begins_tuple a its.toArray) hl _ fun h' he ho hk => wpAny_pyIter_enum he ?_
    exact ⟨st.heap.objs.size + 1, [st.heap.objs.size + 1, st.heap.objs.size], _, _, H, rfl, I.kept (t' := st.toks) hk, turn_enumT k0 a _ _ (Nat.ne_of_lt (Nat.lt_succ_of_lt hal)) (Nat.ne_of_lt hal), ⟨⟨.none, by rw [e0]; exact he⟩, ⟨_, ho, rfl, rfl⟩, Nat.succ_ne_self _⟩, big, q⟩
def iEnumR (K : PySem.W.Frag) (ta : TA) : TI := fun σ H R => ta σ H fun vs H1 => ∃ v, vs = [v] ∧ rEnum K 0 R v H1
def iEnumS (K : PySem.W.Frag) (ta tk : TA) : TI := fun σ H R => ta σ H fun vs H1 => tk σ H1 fun zs H2 => ∃ v k0, vs = [v] ∧ zs = [.int k0] ∧ -(2 ^ 63) ≤ k0 ∧ k0 < 2 ^ 63 ∧ rEnum K k0 R v H2
theorem pi_enumR {X : Cx} {e : Expr} {ta : TA} {p pos tpos : Pos} {elts : List Expr} {kk : Nat} (hg : Gl X "enumerate") (hm : X.mg "enumerate" = none) (ha : PA X [e] ta) (hs : starEach [e] X.env = [(false, eval e X.env)] := by rfl) :
    PI X (.Tuple elts kk tpos) (.Call (.Name "enumerate" p) [e] [] pos) (iEnumR X.K ta) := by
  refine ⟨fun pns st σ H R I0 h => ?_⟩
  refine Call_ (ld_blt I0 hg hm boot_enumerate (PyProof.Rows.callWith_type1 (thn (ha.run pos pns st σ H _ I0 h) fun us s1 ⟨vs, H1, I1, r1, q1⟩ => ?_) hs rfl))
  obtain ⟨v, e1, q⟩ := q1
  subst e1
  cases r1 with
  | cons r rr =>
    cases rr
    exact enum_made I1 r q fun ob Hs B h1 Q k => enum_begins1 B h1 k
/-- a built-in class called with keywords -/
theorem callWith_tyKw {M : Model} {A : Around} {E : Value → Shared → Prop} {st : Shared} {env : Env} {pos : Pos} {T : String} {e : Expr} {rest : List Expr} {kws : List Keyword} {Q : Value → Shared → Prop}
    (h : wpAny M A (spliced (backTo pos (starEach (e :: rest) env))) (fun vs s1 => wpAny M A (evalAll ((backToKw pos (keywordEach kws env)).map (·.2)))
      (fun ws s2 => wpAny M A (call (.type T) vs (((backToKw pos (keywordEach kws env)).filterMap (·.1)).zip ws)) Q E s2) E s1) E st)
    (he : backTo pos (starEach (e :: rest) env) = (false, eval e env) :: backTo pos (starEach rest env)) (hpl : (backTo pos (starEach (e :: rest) env)).any (·.1) = false)
    (hall : (backToKw pos (keywordEach kws env)).all (·.1.isSome) = true) (hkw : (backToKw pos (keywordEach kws env)).any (·.1.isNone) = false) :
    wpAny M A (callWith pos (.type T) [] (backTo pos (starEach (e :: rest) env)) (backToKw pos (keywordEach kws env))) Q E st := by
  have h2 : wpAny M A (evalArgs (.type T) true (backTo pos (starEach (e :: rest) env)) (backToKw pos (keywordEach kws env))) (fun a s1 => wpAny M A (call (.type T) ([] ++ a.pos) a.kw) Q E s1) E st := by
    rw [he] at h ⊢
    exact PyProof.Rows.evalArgs_kwB hall h
  unfold callWith
  refine wpAny_bind (wpAny_holding (wpAny_mono h2 (fun a s1 h1 => wpAny_bind (wpAny_standAt ?_)) fun _ _ z => z))
  simp only [hpl, hkw, Bool.or_false]
  exact wpAny_bind (wpAny_pure (wpAny_bind (wpAny_mono h1 (fun r s2 hr => wpAny_bind (wpAny_holding (wpAny_point (wpAny_pure hr)))) fun _ _ z => z)))
theorem pi_enumS {X : Cx} {e : Expr} {kws : List Keyword} {ta tk : TA} {p pos tpos : Pos} {elts : List Expr} {kk : Nat} (hg : Gl X "enumerate") (hm : X.mg "enumerate" = none) (ha : PA X [e] ta) (hk : PK X kws tk)
    (he : backTo pos (starEach [e] X.env) = (false, eval e X.env) :: backTo pos (starEach [] X.env) := by rfl) (hpl : (backTo pos (starEach [e] X.env)).any (·.1) = false := by rfl)
    (hall : (backToKw pos (keywordEach kws X.env)).all (·.1.isSome) = true := by rfl) (hnone : (backToKw pos (keywordEach kws X.env)).any (·.1.isNone) = false := by rfl) (hks : (backToKw pos (keywordEach kws X.env)).filterMap (·.1) = [Str.ofString "start"] := by rfl) :
    PI X (.Tuple elts kk tpos) (.Call (.Name "enumerate" p) [e] kws pos) (iEnumS X.K ta tk) := by
  refine ⟨fun pns st σ H R I0 h => ?_⟩
  refine wpAny_Call_Name_kw (ld_blt I0 hg hm boot_enumerate ?_)
  refine callWith_tyKw (thn (ha.run pos pns st σ H _ I0 h) fun us s1 ⟨vs, H1, I1, r1, q1⟩ => thn (hk.run pos pns s1 σ H1 _ I1 q1) fun ws s2 ⟨zs, H2, I2, r2, q2⟩ => ?_) he hpl hall hnone
  rw [hks]
  obtain ⟨v, k0, e1, e2, h1, h2, q⟩ := q2
  subst e1 e2
  cases r1 with
  | cons r rr =>
    cases rr
    cases r2 with
    | cons z zz =>
      cases zz
      obtain ⟨tk0, rfl⟩ := z
      exact enum_made I2 r q fun ob Hs B h3 Q k => enum_begins_start B h3 h1 h2 fun h' a b _ d => k h' a b d
end Tb
end

section
set_option Elab.async false
set_option linter.all false
set_option maxRecDepth 100000
set_option maxHeartbeats 1000000
/-! Toss base 4: built-ins over data, comprehensions, defs. -/
namespace Tb
open PySem PySem.Spec PyProof.Rows L2 Evl

theorem bb_int : bootBuiltins "int" = some (.type "int") := by decide +kernel
theorem bb_bool : bootBuiltins "bool" = some (.type "bool") := by decide +kernel
theorem bb_str : bootBuiltins "str" = some (.type "str") := by decide +kernel
theorem bb_list : bootBuiltins "list" = some (.type "list") := by decide +kernel
theorem bb_tuple : bootBuiltins "tuple" = some (.type "tuple") := by decide +kernel
theorem bb_dict : bootBuiltins "dict" = some (.type "dict") := by decide +kernel
theorem bb_len : bootBuiltins "len" = some (.builtin "len") := by decide +kernel
theorem bb_max : bootBuiltins "max" = some (.builtin "max") := by decide +kernel
theorem bb_min : bootBuiltins "min" = some (.builtin "min") := by decide +kernel
theorem bb_abs : bootBuiltins "abs" = some (.builtin "abs") := by decide +kernel
theorem bb_sum : bootBuiltins "sum" = some (.builtin "sum") := by decide +kernel
theorem bb_isinstance : bootBuiltins "isinstance" = some (.builtin "isinstance") := by decide +kernel
/-- the built-in names that a module does not name anew -/
structure Bl (mg : Str → Option Value) : Prop where
  int : mg "int" = none
  bool : mg "bool" = none
  str : mg "str" = none
  list : mg "list" = none
  tuple : mg "tuple" = none
  dict : mg "dict" = none
  len : mg "len" = none
  max : mg "max" = none
  min : mg "min" = none
  isinstance : mg "isinstance" = none
  enumerate : mg "enumerate" = none
  reversed : mg "reversed" = none
  range : mg "range" = none

section
variable {K : PySem.W.Frag} {σ : L2.St} {H H' : Hp} {ta tb te tx tl : TE} {t u : TT} {d e z : PyData} {ds es : List PyData} {r : R2} {v : V}
/-! ### isinstance -/
def tyD : PyData → String
  | .none => "NoneType"
  | .bool _ => "bool"
  | .int _ => "int"
  | .str _ => "str"
  | .list _ => "list"
  | .tuple _ => "tuple"
  | .dict _ => "dict"
theorem tyx_of (h : Dp K H v d) : TyX K H v (.type (tyD d)) := by
  cases h with
  | non => exact .base .non
  | bl b => exact .base (.bl b)
  | int i => exact .base (.int i)
  | str x => exact .base (.str x)
  | lst h a =>
    rcases h with (h | ⟨o, h⟩) | ⟨o, its, n, hk, hc, _⟩
    · exact .base (.lst h)
    · exact .base (.frz h)
    · exact .kList hk hc
  | tup h a =>
    rcases h with (h | ⟨o, h⟩) | ⟨o, its, n, hk, hc, _⟩
    · exact .base (.tup h)
    · exact .fTuple h
    · exact .kTuple hk hc
theorem d_isi {c : String} {b : Bool} (h : EvD K te σ H d) (hb : kitB (tyD d) c = some b) : EvD K (tCB (rIsi K) (tCons te (tCons (tC (.ty c)) tNil))) σ H (.bool b) := fun H1 x Q q =>
  h H1 x _ fun v G H2 g hd => ⟨v, .ty c, _, _, b, rfl, .ty c, tyx_of (dp_mono g.g2 hd), kit_ty hb, q _ G H2 g (.bl b)⟩
theorem d_isi2 {c1 c2 : String} {b1 b2 : Bool} (h : EvD K te σ H d) (h1 : kitB (tyD d) c1 = some b1) (h2 : kitB (tyD d) c2 = some b2) :
    EvD K (tCB (rIsiT K) (tCons te (tCons (tTup (tCons (tC (.ty c1)) (tCons (tC (.ty c2)) tNil))) tNil))) σ H (.bool (b1 || b2)) := fun H1 x Q q =>
  h H1 x _ fun v G H2 g hd => ⟨by show 2 ≤ sizeLine; decide, fun p hp => ⟨v, p, [.ty c1, .ty c2], _, [.type c1, .type c2], b1 || b2, rfl, upd_same, .cons (.ty c1) (.cons (.ty c2) .nil), tyx_of (dp_mono (g.g2.trans (Ex.new hp)) hd),
    kitAny_cons (kit_ty h1) (fun z => by
      subst z
      exact kitAny_cons (kit_ty h2) (fun z => by
        subst z
        exact kitAny_nil) fun z => by rw [z]; rfl) (fun z => by rw [z]; rfl), q _ G _ (g.trans (Gr.mut g.g2 hp)) (.bl _)⟩⟩
theorem kit_int : kitB (tyD d) "int" = some (match d with | .int _ => true | .bool _ => true | _ => false) := by
  cases d
  · exact (show kitB "NoneType" "int" = some false by decide +kernel)
  · exact (show kitB "bool" "int" = some true by decide +kernel)
  · exact (show kitB "int" "int" = some true by decide +kernel)
  · exact (show kitB "str" "int" = some false by decide +kernel)
  · exact (show kitB "list" "int" = some false by decide +kernel)
  · exact (show kitB "tuple" "int" = some false by decide +kernel)
  · exact (show kitB "dict" "int" = some false by decide +kernel)
theorem kit_bool : kitB (tyD d) "bool" = some (match d with | .bool _ => true | _ => false) := by
  cases d
  · exact (show kitB "NoneType" "bool" = some false by decide +kernel)
  · exact (show kitB "bool" "bool" = some true by decide +kernel)
  · exact (show kitB "int" "bool" = some false by decide +kernel)
  · exact (show kitB "str" "bool" = some false by decide +kernel)
  · exact (show kitB "list" "bool" = some false by decide +kernel)
  · exact (show kitB "tuple" "bool" = some false by decide +kernel)
  · exact (show kitB "dict" "bool" = some false by decide +kernel)
theorem kit_str : kitB (tyD d) "str" = some (match d with | .str _ => true | _ => false) := by
  cases d
  · exact (show kitB "NoneType" "str" = some false by decide +kernel)
  · exact (show kitB "bool" "str" = some false by decide +kernel)
  · exact (show kitB "int" "str" = some false by decide +kernel)
  · exact (show kitB "str" "str" = some true by decide +kernel)
  · exact (show kitB "list" "str" = some false by decide +kernel)
  · exact (show kitB "tuple" "str" = some false by decide +kernel)
  · exact (show kitB "dict" "str" = some false by decide +kernel)
theorem kit_list : kitB (tyD d) "list" = some (match d with | .list _ => true | _ => false) := by
  cases d
  · exact (show kitB "NoneType" "list" = some false by decide +kernel)
  · exact (show kitB "bool" "list" = some false by decide +kernel)
  · exact (show kitB "int" "list" = some false by decide +kernel)
  · exact (show kitB "str" "list" = some false by decide +kernel)
  · exact (show kitB "list" "list" = some true by decide +kernel)
  · exact (show kitB "tuple" "list" = some false by decide +kernel)
  · exact (show kitB "dict" "list" = some false by decide +kernel)
theorem kit_tuple : kitB (tyD d) "tuple" = some (match d with | .tuple _ => true | _ => false) := by
  cases d
  · exact (show kitB "NoneType" "tuple" = some false by decide +kernel)
  · exact (show kitB "bool" "tuple" = some false by decide +kernel)
  · exact (show kitB "int" "tuple" = some false by decide +kernel)
  · exact (show kitB "str" "tuple" = some false by decide +kernel)
  · exact (show kitB "list" "tuple" = some false by decide +kernel)
  · exact (show kitB "tuple" "tuple" = some true by decide +kernel)
  · exact (show kitB "dict" "tuple" = some false by decide +kernel)

/-! ### len, an item, list, tuple, max, min -/
theorem rcd_len {b : Bool} : RCD K (fun xs H Q => ∃ p ys, xs = [V.ref p] ∧ (SqL K H p ys ∨ SqT K H p ys) ∧ Q (.int ys.length) H) [rows b ds] H (.int ds.length) := fun vs H1 x hd Q q => by
  cases hd with
  | cons h h0 =>
    cases h0
    obtain ⟨a, xs, rfl, hr, ha⟩ := row_of h
    refine ⟨a, xs, rfl, row_mono x hr, ?_⟩
    rw [ha.length]
    exact q _ H H1 (.refl x) (.int _)
theorem at_dp {xs : List V} {i : Int} (h : DpAll K H xs ds) (ha : atI ds i = some e) : ∃ v, atI xs i = some v ∧ Dp K H v e := by
  unfold atI at ha ⊢
  rw [h.length]
  cases q : ixN ds.length i with
  | none =>
    rw [q] at ha
    cases ha
  | some j =>
    rw [q] at ha
    exact h.get' ha
/-- an item of a row -/
def rIxR (K : PySem.W.Frag) : R2 := fun x y H Q => rIxL K x y H Q ∨ rIxT K x y H Q
theorem ix_row {X : Cx} : IxR X (rIxR X.K) := ix_list.or ix_tup
theorem rd_ix {b : Bool} {i : Int} (ha : atI ds i = some e) : RD K (rIxR K) (rows b ds) (.int i) H e := fun x y H1 ex hx hy Q q => by
  obtain ⟨a, xs, rfl, hr, hd⟩ := row_of hx
  obtain ⟨w, h1, h2⟩ := at_dp hd ha
  have hy := hy.int_of
  subst hy
  rcases hr with hr | hr
  · exact .inl ⟨a, xs, i, w, rfl, rfl, ex_l ex hr, h1, q _ H H1 (.refl ex) h2⟩
  · exact .inr ⟨a, xs, i, w, rfl, rfl, ex_t ex hr, h1, q _ H H1 (.refl ex) h2⟩
theorem rcd_tuple {b : Bool} : RCD K (fun xs H Q => ∃ p ys, xs = [V.ref p] ∧ ((SqL K H p ys ∧ ∀ l, H l = none → Q (.ref l) (upd H l (.tup ys))) ∨ (SqT K H p ys ∧ Q (.ref p) H))) [rows b ds] H (.tuple ds) := fun vs H1 x hd Q q => by
  cases hd with
  | cons h h0 =>
    cases h0
    cases b with
    | true =>
      obtain ⟨a, xs, rfl, hr, ha⟩ := Dp.lst_of (show Dp K H _ (.list ds) from h)
      exact ⟨a, xs, rfl, .inl ⟨ex_l x hr, fun l hl => q _ _ _ (Gr.new x hl) (.tup (st_of upd_same) (dpa_mono (Ex.new (fresh_back x hl)) ha))⟩⟩
    | false =>
      obtain ⟨a, xs, rfl, hr, ha⟩ := Dp.tup_of (show Dp K H _ (.tuple ds) from h)
      exact ⟨a, xs, rfl, .inr ⟨ex_t x hr, q _ H H1 (.refl x) (.tup hr ha)⟩⟩
theorem rcdl_list {b : Bool} : RCDL K (fun xs H Q => ∃ p ys, xs = [V.ref p] ∧ (SqL K H p ys ∨ SqT K H p ys) ∧ ∀ l, H l = none → Q (.ref l) (upd H l (.lst ys))) [rows b ds] H ds := fun vs H1 x hd Q q => by
  cases hd with
  | cons h h0 =>
    cases h0
    obtain ⟨a, xs, rfl, hr, ha⟩ := row_of h
    exact ⟨a, xs, rfl, row_mono x hr, fun l hl => q l xs H _ (fresh_back x hl) hl (Gr.mut x hl) upd_same ha⟩
theorem rcd_min2 {i j : Int} : RCD K (fun xs H Q => ∃ i j, xs = [V.int i, .int j] ∧ Q (.int (if j < i then j else i)) H) [.int i, .int j] H (.int (min i j)) := fun vs H1 x hd Q q => by
  have hv := DpAll.ints (ns := [i, j]) hd
  refine ⟨i, j, hv, ?_⟩
  rw [show (if j < i then j else i) = min i j by split <;> omega]
  exact q _ H H1 (.refl x) (.int _)
theorem rcd_max2 {i j : Int} : RCD K (fun xs H Q => ∃ i j, xs = [V.int i, .int j] ∧ Q (.int (if j > i then j else i)) H) [.int i, .int j] H (.int (max i j)) := fun vs H1 x hd Q q => by
  have hv := DpAll.ints (ns := [i, j]) hd
  refine ⟨i, j, hv, ?_⟩
  rw [show (if j > i then j else i) = max i j by split <;> omega]
  exact q _ H H1 (.refl x) (.int _)
theorem rcd_int1 {i : Int} : RCD K (fun xs H Q => (∃ i, xs = [V.int i] ∧ Q (.int i) H) ∨ ∃ k, xs = [V.bl k] ∧ Q (.int (if k then 1 else 0)) H) [.int i] H (.int i) := fun vs H1 x hd Q q => .inl ⟨i, DpAll.ints (ns := [i]) hd, q _ H H1 (.refl x) (.int _)⟩
theorem rcd_intB {b : Bool} : RCD K (fun xs H Q => (∃ i, xs = [V.int i] ∧ Q (.int i) H) ∨ ∃ k, xs = [V.bl k] ∧ Q (.int (if k then 1 else 0)) H) [.bool b] H (.int (if b then 1 else 0)) := fun vs H1 x hd Q q => by
  cases hd with
  | cons h h0 =>
    cases h0
    rw [h.bl_of]
    exact .inr ⟨b, rfl, q _ H H1 (.refl x) (.int _)⟩
end
/-- the greatest of some ints, d where there are none -/
def maxOf (d : Int) : List Int → Int
  | [] => d
  | n :: ns => ns.foldl max n
def rMaxDf (K : PySem.W.Frag) : List V → List V → Hp → VK → Prop := fun vs zs H Q => ∃ a ns d0, vs = [.ref a] ∧ zs = [.int d0] ∧ SqT K H a (ns.map V.int) ∧ Q (.int (maxOf d0 ns)) H
theorem alike_ints (ns : List Int) : PySem.W.AlikeAll (ns.map .int) := by
  refine ⟨fun x hx y hy => ?_, fun x hx => ?_⟩
  · obtain ⟨i, _, rfl⟩ := List.mem_map.mp hx
    obtain ⟨j, _, rfl⟩ := List.mem_map.mp hy
    rfl
  · obtain ⟨i, _, rfl⟩ := List.mem_map.mp hx
    exact fun z => nomatch z
theorem depth_ints : ∀ ns : List Int, PyData.depthAll (ns.map .int) ≤ 1
  | [] => by simp [PyData.depthAll]
  | n :: ns => by
    have h := depth_ints ns
    simp only [List.map_cons, PyData.depthAll, PyData.depth]
    omega
theorem cr_maxDf {X : Cx} (hc : X.calm = true) (hu : X.A.units + 64 < cLine) : CallRK X (.builtin "max") [Str.ofString "default"] (rMaxDf X.K) := by
  intro pns st σ H vs zs us ws Q I r r2 h
  obtain ⟨a, ns, d0, rfl, rfl, hs, q⟩ := h
  obtain ⟨its, rv, ht, _⟩ := I.tuple hs
  obtain ⟨as, hr⟩ := Dp.readsAll I (ns.map .int) _ its (DpAll.of_ints ns) rv
  rw [Vals.ref1 r]
  cases r2 with
  | cons z zz =>
    cases zz
    obtain ⟨tk0, rfl⟩ := z
    have hd := depth_ints ns
    refine PySem.W.max_tuple_default (I.ok.hd hc) (show st.heap.IsTuple a its.toArray from ht) (by simpa using hr) (alike_ints ns) (by omega) (fun h0 h' tk hk => ?_) fun y ys i v h' tk bs hy hv hr' hk => ?_
    · cases ns with
      | nil => exact ⟨.int d0, H, I.kept hk, ⟨_, rfl⟩, q⟩
      | cons n ns => cases h0
    · cases ns with
      | nil => cases hy
      | cons n ns =>
        rw [List.map_cons] at hy
        injection hy with e1 e2
        subst e1 e2
        rw [PySem.W.maxD_ints] at hr'
        cases hr' with
        | int _ t => exact ⟨.int _, H, I.kept hk, ⟨_, rfl⟩, q⟩
section
variable {K : PySem.W.Frag} {σ : L2.St} {H H' : Hp} {te tx tl : TE} {t : TT} {d e z : PyData} {ds es : List PyData} {g : TG} {vs : List Nat}
theorem d_maxDf {ns : List Int} {d0 : Int} (h : EvD K te σ H (.tuple (ns.map .int))) : EvD K (tCKw (rMaxDf K) (tCons te tNil) (tCons (tC (.int d0)) tNil)) σ H (.int (maxOf d0 ns)) := fun H1 x Q q =>
  h H1 x _ fun v G H2 g hd => by
    obtain ⟨a, xs, rfl, hs, ha⟩ := Dp.tup_of hd
    rw [ha.ints] at hs
    exact ⟨a, ns, d0, rfl, rfl, ex_t g.g2 hs, q _ G H2 g (.int _)⟩

/-! ### comprehensions over a row -/
theorem dl_lc {b : Bool} (f : PyData → Option PyData) (h : EvD K tl σ H (rows b ds)) (hl : ds.length ≤ 40000)
    (hb : ∀ (d : PyData), d ∈ ds → ∀ (x : V) (G H' : Hp), Ex H G → Ex G H' → Dp K G x d → ∀ Q : L2.St → Hp → Prop, (∀ σ2, wipe σ2 vs = wipe σ vs → EvT t σ2 G (f d).isSome → (∀ e, f d = some e → EvD K te σ2 G e) → Q σ2 H') → g x (wipe σ vs) H' Q) :
    EvDL K (tLc (iRow K tl) g t te vs) σ H (ds.filterMap f) := fun H1 x Q q => h H1 x _ fun v G1 H2 g1 hd => by
  obtain ⟨a, xs, rfl, hr, ha⟩ := row_of hd
  have hxl := ha.length
  -- the word: what is known for good grows, the list at D stands apart
  let Pv : Addr → Nat → Hp → Prop := fun Dl i H' => ∃ G ys, G Dl = none ∧ Gr G1 H2 G H' ∧ H' Dl = some (.lst ys) ∧ DpAll K G ys ((ds.take i).filterMap f)
  have h0 : ∀ Dl, H2 Dl = none → Pv Dl 0 (upd H2 Dl (.lst [])) := fun Dl hD => ⟨G1, [], fresh_back g1.g2 hD, Gr.mut g1.g2 hD, upd_same, by simpa using DpAll.nil⟩
  have fin : ∀ Dl, H2 Dl = none → ∀ H', Pv Dl ds.length H' → Q (.ref Dl) H' := fun Dl hD H' ⟨G, ys, a1, a2, a3, a4⟩ => by
    rw [List.take_length] at a4
    exact q Dl ys G H' a1 (fresh_back g1.h12 hD) (g1.trans a2) a3 a4
  have turn : ∀ Dl, H2 Dl = none → ∀ i y H', xs[i]? = some y → Pv Dl i H' → g y (wipe σ vs) H' fun σ2 H2' => wipe σ2 vs = wipe σ vs ∧ t σ2 H2' fun b H3 =>
      if b = true then te σ2 H3 fun w H4 => ∃ acc, H4 Dl = some (.lst acc) ∧ acc.length < sizeLine ∧ Pv Dl (i + 1) (upd H4 Dl (.lst (acc ++ [w]))) else Pv Dl (i + 1) H3 := fun Dl hD i y H' hy p => by
    obtain ⟨G, ys, a1, a2, a3, a4⟩ := p
    obtain ⟨d, hdi, hdy⟩ := ha.get hy
    have hmem : d ∈ ds := List.mem_of_getElem? hdi
    have hi : i < ds.length := (List.getElem?_eq_some_iff.mp hdi).1
    refine hb d hmem y G H' (g1.hg.trans a2.hg) a2.g2 (dp_mono a2.hg hdy) _ fun σ2 hw ht he => ⟨hw, ht H' a2.g2 _ fun H3 e3 => ?_⟩
    have htk : (ds.take (i + 1)).filterMap f = (ds.take i).filterMap f ++ (f d).toList := by
      rw [List.take_add_one, hdi, List.filterMap_append]
      cases hf : f d <;> simp [hf]
    cases hf : f d with
    | none =>
      show Pv Dl (i + 1) H3
      refine ⟨G, ys, a1, ⟨a2.hg, a2.g2.trans e3, a2.h12.trans e3, a2.sep⟩, e3 _ _ a3, ?_⟩
      rw [htk, hf]
      simpa using a4
    | some e =>
      show te σ2 H3 fun w H4 => ∃ acc, H4 Dl = some (.lst acc) ∧ acc.length < sizeLine ∧ Pv Dl (i + 1) (upd H4 Dl (.lst (acc ++ [w])))
      refine he e hf H3 (a2.g2.trans e3) _ fun w G4 H4 g4 hw4 => ?_
      have hD4 : H4 Dl = some (.lst ys) := g4.h12 _ _ (e3 _ _ a3)
      have hG4 : G4 Dl = none := g4.sep Dl a1 (by rw [e3 _ _ a3]; exact fun z => nomatch z)
      have hlen : ys.length ≤ 40000 := by
        rw [a4.length]
        exact Nat.le_trans (List.length_filterMap_le _ _) (by rw [List.length_take]; omega)
      refine ⟨ys, hD4, sz_lt (by omega), G4, ys ++ [w], hG4, ⟨a2.hg.trans g4.hg, fun b u hu => ?_, Ex.mut ((a2.h12.trans e3).trans g4.h12) hD, fun b h1 h2 => ?_⟩, upd_same, ?_⟩
      · rw [upd_ne (ne_of_none hu hG4)]
        exact g4.g2 b u hu
      · refine g4.sep b (a2.sep b h1 h2) fun z => ?_
        cases q2 : H2 b with
        | none => exact h2 q2
        | some o =>
          rw [(a2.h12.trans e3) b o q2] at z
          cases z
      · rw [htk, hf]
        exact (dpa_mono g4.hg a4).append (.one hw4)
  have Gstay : ∀ Dl i H', Pv Dl i H' → Ex G1 H' := fun Dl i H' ⟨G, ys, _, a2, _⟩ => a2.hg.trans a2.g2
  refine ⟨a, rfl, ?_⟩
  rcases hr with hr | hr
  · exact .inl ⟨⟨xs, ex_l g1.g2 hr⟩, fun Dl hD => lc_list (xs := xs) (Pv Dl) (h0 Dl hD) (fun i H' _ p => ex_l (Gstay Dl i H' p) hr) (turn Dl hD) (by rw [hxl]; exact fin Dl hD)⟩
  · exact .inr ⟨⟨xs, ex_t g1.g2 hr⟩, fun Dl hD => lc_tup (xs := xs) (Pv Dl) (h0 Dl hD) (fun i H' _ p => ex_t (Gstay Dl i H' p) hr) (turn Dl hD) (by rw [hxl]; exact fin Dl hD)⟩
theorem et_yes : EvT tYes σ H true := fun H1 _ _ q => q H1 (Ex.refl H1)
end

/-! ### a def by its body -/
theorem has_mk {P : Program} {w : World} {K : PySem.W.Frag} {mg : Str → Option Value} {base : Heap} {CX : CXT} {x qual : Str} {st : Stmt} {f : Addr} {fd : FuncData} {k : Nat} {N ps : List Str} {sp : Sp}
    (F : FunD K x qual (defArgs st) (defBody st) (defScope st) [] [] f fd) (hm : mg x = some (.ref f)) (S : FnScope N ps (defScope st)) (len : ∀ vs H Q E, sp vs H Q E → vs.length = ps.length)
    (h : ∀ (kV doc pm : Value) (an : Option Addr) (cdv ct : Value) (us : List Value), us.length = ps.length → bindArgs (PySem.W.fnOf x qual (defArgs st) (defBody st) (defScope st) .none kV doc pm an cdv ct) ⟨us, []⟩ = pure (ps.zip us))
    (body : ∀ (cdv : Value) (A : Around) (outer : List Env) (s : Shared) (H : Hp) (vs : List V) (Q : VK) (E : XK), Room k (A.deeper (envOfC qual (defScope st) s.heap.objs.size f cdv)) → sp vs H Q E →
      ∃ t, PSs (cxOf CX P w K mg base N qual (defScope st) f cdv A outer s H E).nox (defBody st) t ∧ t { nx := fun _ H' => Q .non H', rt := Q } (start N vs) H) :
    Has P w K mg base CX x (k + 1) ps [] sp :=
  has_of F hm (F.ok S len fun cdv A outer s H vs Q E hr hs => by
    obtain ⟨t, h1, h2⟩ := body cdv A outer s H vs Q E hr hs
    exact ⟨t, h1.nox, h2⟩) h
end Tb
end

section
set_option Elab.async false
set_option linter.all false
set_option maxRecDepth 100000
set_option maxHeartbeats 1000000
/-! Toss base 5: pairs unpacked, loops over enumerate, reversed, range. -/
namespace Tb
open PySem PySem.Spec PyProof.Rows L2 Evl

section
variable {K : PySem.W.Frag} {σ : L2.St} {B H H' : Hp} {ta tb te tx : TE} {t u : TT} {d e z : PyData} {ds es : List PyData} {D : Ends} {tu tw tz : TS} {g : TG} {b : Bool} {v : V}
theorem t_test {c : Bool} (h : EvD K te σ H (.bool c)) : EvT (tTest te) σ H c := fun H1 x Q q => h H1 x _ fun v G H2 g h2 => ⟨c, h2.bl_of, q H2 g.h12⟩
/-- (i, j) = a pair that B knows -/
theorem g_pairB {i j : Nat} {Q : L2.St → Hp → Prop} (x : Ex B H) (h : Dp K B v (rows b [d, e])) (k : ∀ y w, Dp K B y d → Dp K B w e → Q ((σ.set i (some y)).set j (some w)) H) : gRow K 2 (gCons (gName i) (gCons (gName j) gNil)) v σ H Q := by
  obtain ⟨a, xs, e1, hr, ha⟩ := row_of h
  cases ha with
  | cons h1 a1 =>
    cases a1 with
    | cons h2 a2 =>
      cases a2
      exact ⟨a, _, e1, row_mono x hr, rfl, _, _, rfl, _, _, rfl, rfl, k _ _ h1 h2⟩
theorem qd_pair {i j : Nat} (x : Ex B H) (h : EvD K te σ B (rows b [d, e])) (k : ∀ y w G H1, Gr B H G H1 → Dp K G y d → Dp K G w e → tz D ((σ.set i (some y)).set j (some w)) H1) :
    tSeq (tAsg te (gRow K 2 (gCons (gName i) (gCons (gName j) gNil)))) tz D σ H := h H x _ fun v G H1 g hd => g_pairB g.g2 hd fun y w hy hw => k y w G H1 g hy hw

/-! ### for i, x in enumerate(row, k0) -/
theorem walk_enumL {a : Addr} {k0 : Int} {xs : List V} : Walk (IteL K a k0) xs.length (fun H => SqL K H a xs) (fun i H v H' => ∃ T x, v = .ref T ∧ H T = none ∧ H' = upd H T (.tup [.int (k0 + (i : Nat)), x]) ∧ xs[i]? = some x) :=
  ⟨fun i _ hi q => ⟨xs, xs[i], q, by simp [hi]⟩, fun _ q => ⟨xs, q, rfl⟩, fun i H v H' _ q y => by
    obtain ⟨T, x, h1, h2, h3, h4⟩ := y
    exact ⟨T, x, h1, h2, h3, h4 xs q⟩⟩
theorem walk_enumT {a : Addr} {k0 : Int} {xs : List V} : Walk (IteT K a k0) xs.length (fun H => SqT K H a xs) (fun i H v H' => ∃ T x, v = .ref T ∧ H T = none ∧ H' = upd H T (.tup [.int (k0 + (i : Nat)), x]) ∧ xs[i]? = some x) :=
  ⟨fun i _ hi q => ⟨xs, xs[i], q, by simp [hi]⟩, fun _ q => ⟨xs, q, rfl⟩, fun i H v H' _ q y => by
    obtain ⟨T, x, h1, h2, h3, h4⟩ := y
    exact ⟨T, x, h1, h2, h3, h4 xs q⟩⟩
theorem for_enum {k0 : Int} {a c : Nat} (hd : Dp K B v (rows b ds)) (Pv : Nat → L2.St → Hp → Prop) (h0 : Pv 0 σ H) (e : Ex B H) (hG : ∀ i σ' H', i ≤ ds.length → Pv i σ' H' → Ex B H')
    (hs : ∀ (i : Nat) d x σ' H' H2, ds[i]? = some d → Dp K B x d → Pv i σ' H' → Ex H' H2 → tu { D with nx := Pv (i + 1), ct := Pv (i + 1), bk := D.nx } ((σ'.set a (some (.int (k0 + (i : Int))))).set c (some x)) H2)
    (hn : ∀ σ' H', Pv ds.length σ' H' → D.nx σ' H') :
    rEnum K k0 (fun J H1 => ∃ W : Nat → Nat → L2.St → Hp → Prop, (∃ m, W 0 m σ H1) ∧ ∀ i m σ H, W i m σ H → (J.stop i H ∧ D.nx σ H) ∨ (J.go i H ∧ ∃ N : L2.St → Hp → Prop, (∀ σ' H', N σ' H' → ∃ m', m' < m ∧ W (i + 1) m' σ' H') ∧
      ∀ x H', J.yld i H x H' → gRow K 2 (gCons (gName a) (gCons (gName c) gNil)) x σ H' fun σ2 H2 => tu { D with nx := N, ct := N, bk := D.nx } σ2 H2)) v H := by
  obtain ⟨ad, xs, rfl, hr, ha⟩ := row_of hd
  have hl := ha.length
  have turn : ∀ (i : Nat) (y : V) (σ' : L2.St) (H1 H1' : Hp), i < xs.length → Pv i σ' H1 → (∃ T x, y = .ref T ∧ H1 T = none ∧ H1' = upd H1 T (.tup [.int (k0 + (i : Nat)), x]) ∧ xs[i]? = some x) →
      gRow K 2 (gCons (gName a) (gCons (gName c) gNil)) y σ' H1' fun σ2 H2 => tu { D with nx := Pv (i + 1), ct := Pv (i + 1), bk := D.nx } σ2 H2 := by
    rintro i y σ' H1 H1' hi p ⟨T, x, rfl, hT, rfl, hx⟩
    obtain ⟨d, h1, h2⟩ := ha.get hx
    exact ⟨T, [.int (k0 + (i : Nat)), x], rfl, .inr (st_of upd_same), rfl, _, _, rfl, _, _, rfl, rfl, hs i d x σ' H1 _ h1 h2 p (Ex.new hT)⟩
  refine ⟨ad, rfl, ?_⟩
  rcases hr with hr | hr
  · exact .inl ⟨⟨xs, ex_l e hr⟩, for_it walk_enumL Pv h0 (fun i σ' H' hi p => ex_l (hG i σ' H' (by omega) p) hr) turn (by rw [hl]; exact hn)⟩
  · exact .inr ⟨⟨xs, ex_t e hr⟩, for_it walk_enumT Pv h0 (fun i σ' H' hi p => ex_t (hG i σ' H' (by omega) p) hr) turn (by rw [hl]; exact hn)⟩
/-- over a row at the j-th slot -/
theorem sd_forE {j a c : Nat} (e : Ex B H) (hd : Dp K B v (rows b ds)) (hv : σ[j]? = some (some v)) (Pv : Nat → L2.St → Hp → Prop) (h0 : Pv 0 σ H) (hG : ∀ i σ' H', i ≤ ds.length → Pv i σ' H' → Ex B H')
    (hs : ∀ (i : Nat) d x σ' H' H2, ds[i]? = some d → Dp K B x d → Pv i σ' H' → Ex H' H2 → tu { D with nx := Pv (i + 1), ct := Pv (i + 1), bk := D.nx } ((σ'.set a (some (.int (0 + (i : Int))))).set c (some x)) H2)
    (hn : ∀ σ' H', Pv ds.length σ' H' → D.nx σ' H') : tFor (iEnumR K (tCons (tVar j) tNil)) (gRow K 2 (gCons (gName a) (gCons (gName c) gNil))) tu D σ H :=
  ⟨_, hv, _, rfl, for_enum hd Pv h0 e hG hs hn⟩
theorem qd_forE {j a c : Nat} (e : Ex B H) (hd : Dp K B v (rows b ds)) (hv : σ[j]? = some (some v)) (Pv : Nat → L2.St → Hp → Prop) (h0 : Pv 0 σ H) (hG : ∀ i σ' H', i ≤ ds.length → Pv i σ' H' → Ex B H')
    (hs : ∀ (i : Nat) d x σ' H' H2, ds[i]? = some d → Dp K B x d → Pv i σ' H' → Ex H' H2 → tu { D with nx := Pv (i + 1), ct := Pv (i + 1), bk := tz D } ((σ'.set a (some (.int (0 + (i : Int))))).set c (some x)) H2)
    (hn : ∀ σ' H', Pv ds.length σ' H' → tz D σ' H') : tSeq (tFor (iEnumR K (tCons (tVar j) tNil)) (gRow K 2 (gCons (gName a) (gCons (gName c) gNil))) tu) tz D σ H := sd_forE (D := { D with nx := tz D }) e hd hv Pv h0 hG hs hn
end
end Tb
end

section
set_option Elab.async false
set_option linter.all false
set_option maxRecDepth 100000
set_option maxHeartbeats 1000000
/-! Toss towers: towers as data, comprehensions and loops over them; defs with a default. -/
namespace Tb
open PySem PySem.Spec PyProof.Rows L2 Evl

abbrev Tw := List (Int × Int)
def prD (c : Bool) (p : Int × Int) : PyData := rows c [.int p.1, .int p.2]
/-- towers as data: a row (b: a list) of pairs (c: lists) -/
def twD (b c : Bool) (ts : Tw) : PyData := rows b (ts.map (prD c))
section
variable {K : PySem.W.Frag} {σ : L2.St} {B H H' : Hp} {ta tb te tx tl : TE} {t u : TT} {d e z : PyData} {ds es : List PyData} {D : Ends} {tu tw tz : TS} {b c : Bool} {v : V} {ts : Tw} {i j : Nat} {vs : List Nat}
theorem lc_tw (f : Int × Int → Option PyData) (h : EvD K tl σ B (twD b c ts)) (hl : ts.length ≤ 40000) (hv : ∀ y w, wipe (((wipe σ vs).set i (some y)).set j (some w)) vs = wipe σ vs)
    (ht : ∀ p ∈ ts, ∀ G, Ex B G → EvT t (((wipe σ vs).set i (some (.int p.1))).set j (some (.int p.2))) G (f p).isSome)
    (he : ∀ p ∈ ts, ∀ e, f p = some e → ∀ G, Ex B G → EvD K te (((wipe σ vs).set i (some (.int p.1))).set j (some (.int p.2))) G e) :
    EvDL K (tLc (iRow K tl) (gRow K 2 (gCons (gName i) (gCons (gName j) gNil))) t te vs) σ B (ts.filterMap f) := by
  let f' : PyData → Option PyData := fun d => match d with
    | .list [.int k, .int h] => f (k, h)
    | .tuple [.int k, .int h] => f (k, h)
    | _ => none
  have hf : ∀ p, f' (prD c p) = f p := fun p => by cases c <;> rfl
  have e1 : (ts.map (prD c)).filterMap f' = ts.filterMap f := by
    rw [List.filterMap_map]
    congr 1
    funext p
    exact hf p
  rw [← e1]
  refine dl_lc f' h (by rw [List.length_map]; exact hl) fun d hd x G H' eG e2 hx Q k => ?_
  obtain ⟨p, hp, rfl⟩ := List.mem_map.mp hd
  refine g_pairB e2 hx fun y w hy hw => ?_
  rw [hy.int_of, hw.int_of]
  refine k _ (hv _ _) ?_ fun e he' => ?_
  · rw [hf p]
    exact ht p hp G eG
  · rw [hf p] at he'
    exact he p hp e he' G eG
/-- for a, c in towers (at the l-th slot) -/
theorem sd_forTw {l : Nat} (e : Ex B H) (hd : Dp K B v (twD b c ts)) (hv : σ[l]? = some (some v)) (Pv : Nat → L2.St → Hp → Prop) (h0 : Pv 0 σ H) (hG : ∀ n σ' H', n ≤ ts.length → Pv n σ' H' → Ex B H')
    (hs : ∀ n p σ' H', ts[n]? = some p → Pv n σ' H' → tu { D with nx := Pv (n + 1), ct := Pv (n + 1), bk := D.nx } ((σ'.set i (some (.int p.1))).set j (some (.int p.2))) H')
    (hn : ∀ σ' H', Pv ts.length σ' H' → D.nx σ' H') : tFor (iRow K (tVar l)) (gRow K 2 (gCons (gName i) (gCons (gName j) gNil))) tu D σ H := by
  have hl : (ts.map (prD c)).length = ts.length := List.length_map ..
  refine sd_for e hd hv Pv h0 (fun n σ' H' hi p => hG n σ' H' (by omega) p) (fun n d x σ' H' hi hx p => ?_) (by rw [hl]; exact hn)
  rw [List.getElem?_map] at hi
  cases hq : ts[n]? with
  | none =>
    rw [hq] at hi
    cases hi
  | some q =>
    rw [hq] at hi
    cases hi
    refine g_pairB (hG n σ' H' (by have := (List.getElem?_eq_some_iff.mp hq).1; omega) p) hx fun y w hy hw => ?_
    rw [hy.int_of, hw.int_of]
    exact hs n q σ' H' hq p
theorem qd_forTw {l : Nat} (e : Ex B H) (hd : Dp K B v (twD b c ts)) (hv : σ[l]? = some (some v)) (Pv : Nat → L2.St → Hp → Prop) (h0 : Pv 0 σ H) (hG : ∀ n σ' H', n ≤ ts.length → Pv n σ' H' → Ex B H')
    (hs : ∀ n p σ' H', ts[n]? = some p → Pv n σ' H' → tu { D with nx := Pv (n + 1), ct := Pv (n + 1), bk := tz D } ((σ'.set i (some (.int p.1))).set j (some (.int p.2))) H')
    (hn : ∀ σ' H', Pv ts.length σ' H' → tz D σ' H') : tSeq (tFor (iRow K (tVar l)) (gRow K 2 (gCons (gName i) (gCons (gName j) gNil))) tu) tz D σ H := sd_forTw (D := { D with nx := tz D }) e hd hv Pv h0 hG hs hn
theorem sp_PD {n : Nat} {R : List PyData → PyData → Prop} {dvs : List V} {dds : List PyData} (hv : ∀ H, DpAll K H dvs dds) (hn : (ds ++ dds).length = n) (h : R (ds ++ dds) z) : SpD K (spP K n R) dvs ds z :=
  fun vs H H1 x hd Q E q => ⟨H, ds ++ dds, z, x, hn, hd.append (hv H), h, q⟩
end
/-- if c: a call whose value is dropped -/
theorem qd_ifdrop {K : PySem.W.Frag} {σ : L2.St} {B H : Hp} {te : TE} {t : TT} {d : PyData} {D : Ends} {tz : TS} {c : Bool} (x : Ex B H) (h : EvT t σ B c) (h1 : c = true → EvD K te σ B d) (k : ∀ H1, Ex H H1 → tz D σ H1) : tSeq (tIfS t (tDrop te) tNext) tz D σ H :=
  qd_when x h (fun hc H1 e1 => sd_drop (x.trans e1) (h1 hc) fun H2 e2 => k H2 (e1.trans e2)) fun _ H1 e1 => k H1 e1
/-- a def whose last parameter has a default -/
theorem has_mkD {P : Program} {w : World} {K : PySem.W.Frag} {mg : Str → Option Value} {base : Heap} {CX : CXT} {x qual : Str} {st : Stmt} {f : Addr} {fd : FuncData} {k n : Nat} {N ps : List Str} {dvs : List V} {sp : Sp}
    (F : FunD K x qual (defArgs st) (defBody st) (defScope st) dvs [] f fd) (hm : mg x = some (.ref f)) (S : FnScope N ps (defScope st)) (len : ∀ vs H Q E, sp vs H Q E → vs.length = ps.length) (hd : dvs ≠ []) (hn : n + dvs.length = ps.length)
    (h : ∀ (T : Addr) (kV doc pm : Value) (an : Option Addr) (cdv ct : Value) (us its : List Value), us.length = n → its.length = dvs.length →
      ∃ k, bindArgs (PySem.W.fnOf x qual (defArgs st) (defBody st) (defScope st) (.ref T) kV doc pm an cdv ct) ⟨us, []⟩ = seqItems? (.ref T) >>= k ∧ k (some its.toArray) = pure (ps.zip (us ++ its)))
    (body : ∀ (cdv : Value) (A : Around) (outer : List Env) (s : Shared) (H : Hp) (vs : List V) (Q : VK) (E : XK), Room k (A.deeper (envOfC qual (defScope st) s.heap.objs.size f cdv)) → sp vs H Q E →
      ∃ t, PSs (cxOf CX P w K mg base N qual (defScope st) f cdv A outer s H E).nox (defBody st) t ∧ t { nx := fun _ H' => Q .non H', rt := Q } (start N vs) H) :
    Has P w K mg base CX x (k + 1) ps dvs sp := by
  obtain ⟨ds, hv, hb⟩ := F.binds1 n 0 hd (by simpa using hn) h
  refine ⟨f, fd, ds, F.ok S len fun cdv A outer s H vs Q E hr hs => ?_, hm, F.kp, hv, hb⟩
  obtain ⟨t, h1, h2⟩ := body cdv A outer s H vs Q E hr hs
  exact ⟨t, h1.nox, h2⟩
end Tb
end

section
set_option Elab.async false
set_option linter.all false
set_option maxRecDepth 100000
set_option maxHeartbeats 1000000
/-! Toss base 6: xs[:b] = ys. -/
namespace Tb
open PySem PySem.Spec PyProof.Rows L2 Evl

theorem bounds_head {c n : Nat} (hc : c ≤ n) : sliceBounds none (some (c : Int)) none n = ((0 : Int), (c : Int), 1) := by
  have h2 : ¬ ((c : Int) < 0) := by omega
  simp only [sliceBounds, Option.getD_none, h2, if_false, show (1 : Int) > 0 by decide, if_true]
  congr 1
  congr 1
  omega
/-- the machine's list store at a slice that begins at the list's begin -/
theorem set_head_raw {prog : Program} {w : World} {A : Around} {E : Value → Shared → Prop} {st : Shared} {l b sl : Addr} {its new : Array Value} {n n2 : Nat} {vu : Value} {c : Nat} {Q : Unit → Shared → Prop}
    (hl0 : st.heap.get? l = some { cls := .type "list", data := .seq its n }) (hb0 : st.heap.get? b = some { cls := .type "list", data := .seq new n2 }) (hne : l ≠ b) (hs : st.heap.IsSliceOf sl .none vu .none) (pu : IsPart vu (some (c : Int))) (hc : c ≤ its.size)
    (hsz : its.size + new.size ≤ sizeLine) (k : Q () { st with heap := st.heap.update l (Obj.mapSeq fun xs => xs.extract 0 0 ++ new ++ xs.extract c xs.size) }) :
    wpAny (model prog w) A (setItem (.ref l) (.ref sl) (.ref b)) Q E st := by
  have hl := PySem.IsL.isList hl0
  have hb := PySem.IsL.isList hb0
  obtain ⟨so, h1, h2, h3⟩ := id hs
  have tS : st.TypeIs (.ref sl) "slice" := ⟨so, h1, h2⟩
  have apart : Builtin.List.listSameRef (.ref l) (.ref b) = false := beq_eq_false_iff_ne.mpr hne
  have mx : (max (0 : Int) (c : Int)).toNat = c := by omega
  have z2 : ((fun xs : Array Value => xs.extract 0 0 ++ new ++ xs.extract c xs.size) its).size ≤ sizeLine + 1 := by simp only [Array.size_append, Array.size_extract]; omega
  unfold setItem
  try with_reducible refine wpAny_holding ?_
  refine wpAny_bind (wpAny_sequenceKey hl.typeIs (by decide) (wpAny_bind (wpAny_callSpecial?_slot (name := Str.ofString "__setitem__") hl.typeIs slot_list_setitem (wpAny_call_entry slot_list_setitem hl.typeIs entry_list_setitem ?_ (args_list_setitem _ _ _)))))
  show wpAny _ _ (Builtin.List.listSubscript? (.ref sl) >>= _) _ _ st
  unfold Builtin.List.listSubscript?
  refine wpAny_bind (wpAny_bind (wpAny_specialOf tS slice_no_index ?_))
  simp only [Option.isNone_none, if_true]
  refine wpAny_pure (show wpAny _ _ (typeOf (.ref sl) >>= _) _ _ st from wpAny_bind (wpAny_typeOf tS ?_))
  first | rw [if_neg (by decide)] | refine PySem.W.KFB.if_not (by decide) ?_
  rw [listSliceParts_eq]
  refine wpAny_bind (wpAny_bind (wpAny_field h1 h3 (x := .none) rfl (wpAny_bind (wpAny_listPart .none ?_))))
  rw [if_neg (show ¬ ((rawPart none == rawInt 0) = true) from Bool.false_ne_true)]
  refine wpAny_bind (wpAny_field h1 h3 (x := .none) rfl (wpAny_bind (wpAny_listPart .none (wpAny_bind (wpAny_field h1 h3 (x := vu) rfl (wpAny_bind (wpAny_listPart pu (wpAny_pure ?_))))))))
  first | simp only [apart, Bool.false_eq_true, if_false] | refine PySem.W.KFB.if_not apart ?_ | (dsimp only; rw [if_neg (by rw [apart]; exact Bool.false_ne_true)])
  unfold Builtin.List.listAllItems
  refine wpAny_bind (wpAny_bind (wpAny_typeOf hb.typeIs ?_))
  first | refine PySem.W.KFB.if_so (by decide) ?_ | rw [if_pos (by decide)] | simp only [beq_self_eq_true, Bool.true_or, if_true]
  unfold Builtin.List.listItems
  refine wpAny_bind (wpAny_seqItems hb0 rfl (wpAny_pure (wpAny_bind (wpAny_bind (wpAny_seqItems hl0 rfl (wpAny_pure ?_))))))
  refine wpAny_bind (wpAny_of_eq ((sliceIndices_raw none (some (c : Int)) none its.size (by simp)).trans (congrArg (pure : Int × Int × Int → Sem (Int × Int × Int)) (bounds_head hc))) ?_)
  show wpAny _ _ (if ((1 : Int) == 1) = true then _ else _) _ _ st
  rw [if_pos (by decide)]
  refine wpAny_bind (wpAny_rule ?_)
  first | simp only [notLongL hsz, Bool.false_eq_true, if_false] | refine PySem.W.KFB.if_not (notLongL hsz) ?_
  try refine wpAny_bind (wpAny_pure ?_)
  show wpAny _ _ (updateSeq l (fun xs => xs.extract 0 ((0 : Int)).toNat ++ new ++ xs.extract (max (0 : Int) (c : Int)).toNat xs.size) >>= _) _ _ st
  rw [mx]
  refine wpAny_bind (wpAny_updateSeq (hz := Nat.le_trans (Nat.le_add_right _ _) hsz) (_hz' := z2) hl0 rfl (wpAny_bind (wpAny_letGo ?_)))
  first | exact wpAny_bind (wpAny_pure (wpAny_pure ⟨.none, rfl, wpAny_pure k⟩)) | exact wpAny_pure ⟨.none, rfl, wpAny_pure k⟩

/-- name[:hi] = a list -/
def gHead (to : TE) (th : TO) : TG := fun v σ H Q => to σ H fun o H1 => th σ H1 fun u H2 => ∃ (l b : Addr) (xs ys : List V) (c : Nat), o = .ref l ∧ u = some (c : Int) ∧ v = .ref b ∧ H2 l = some (.lst xs) ∧ H2 b = some (.lst ys) ∧ l ≠ b ∧ c ≤ xs.length ∧
  xs.length + ys.length ≤ sizeLine ∧ Q σ (upd H2 l (.lst (ys ++ xs.drop c)))
theorem pg_head {X : Cx} {pos p2 : Pos} {o : Expr} {hi : Option Expr} {to : TE} {th : TO} (ho : PE X o to) (hh : PO X hi th)
    (hx : ∀ v, assign (.Subscript o (.Slice none hi none p2) pos) X.env v = (do
      let ov ← holding [v] (eval o X.env)
      let iv ← holding [v, ov] (eval (.Slice none hi none p2) X.env)
      standAt pos
      holding [v, ov, iv] (setItem ov iv v)
      release [iv, v, ov] []) := by intro _; rfl) : PG X (.Subscript o (.Slice none hi none p2) pos) (gHead to th) := by
  refine ⟨fun pns st σ H v u Q I r h => ?_⟩
  rw [hx]
  refine wpAny_bind (wpAny_holding (thn (ho.run pns st σ H _ I h) fun ov st1 ⟨x, H1, I1, r1, q1⟩ => wpAny_bind (wpAny_holding (wpAny_Slice ?_))))
  rw [evalPart_none]
  refine wpAny_pure (thn (hh.run pns st1 σ H1 _ I1 q1) fun vu st2 ⟨u2, H2, I2, pu, q2⟩ => wpAny_pure ?_)
  obtain ⟨l, b, xs, ys, c, rfl, rfl, rfl, hl, hb, hne, hc, hz, q⟩ := q2
  cases r1
  cases r
  have I3 : Inv X pns σ H2 { st2 with heap := st2.heap.push { cls := .type "slice", data := .fields #[.none, vu, .none] } } := I2.kept (t' := st2.toks) fun _ _ z => Heap.get?_push_of_some _ z
  obtain ⟨z, its, n, rx, hxl, e⟩ := I3.lstM hl
  obtain ⟨z2, its2, n2, ry, hyl, e2⟩ := I3.lstM hb
  refine wpAny_bind (wpAny_standAt (wpAny_bind (wpAny_holding (set_head_raw e e2 hne (Heap.IsSliceOf.new ..) pu (by rw [List.size_toArray]; omega) (by rw [List.size_toArray, List.size_toArray]; omega) (wpAny_release ⟨σ, _, ?_, q⟩)))))
  refine I3.lset (its' := its2 ++ its.drop c) (t' := st2.toks) hl e ?_ (Vals.append ry (rx.drop _)) ?_
  · exact (splice_eq its its2 0 c).trans (by rw [List.take_zero, List.nil_append])
  · rw [List.length_append, List.length_drop]
    omega
end Tb
end

section
set_option Elab.async false
set_option linter.all false
set_option maxRecDepth 100000
set_option maxHeartbeats 1000000
/-! Toss base 7: lists that grow, slices, reversed rows, comprehensions over enumerate and over two. -/
namespace Tb
open PySem PySem.Spec PyProof.Rows L2 Evl

section
variable {K : PySem.W.Frag} {σ σ2 : L2.St} {B H H' : Hp} {ta tb te tx tl : TE} {t u : TT} {d e z : PyData} {ds es : List PyData} {D : Ends} {tu tw tz : TS} {g : TG} {b : Bool} {v : V} {vs : List Nat}
/-- name.append(e): the list at l stands apart from B -/
theorem sd_append {j : Nat} {l : Addr} {xs : List V} (x : Ex B H) (hl : H l = some (.lst xs)) (h0 : B l = none) (hj : σ[j]? = some (some (.ref l))) (h : EvD K te σ B d) (hz : xs.length < 100000)
    (k : ∀ w G H2, Gr B H G H2 → G l = none → H2 l = some (.lst xs) → Dp K G w d → D.nx σ (upd H2 l (.lst (xs ++ [w])))) : tDrop (tBM K "list" rAppend (tVar j) (tCons te tNil)) D σ H :=
  ⟨_, hj, .inl ⟨rfl, xs, sq_of hl⟩, h H x _ fun w G H2 g hw => by
    have h2 : H2 l = some (.lst xs) := g.h12 _ _ hl
    exact ⟨l, xs, w, rfl, rfl, h2, sz_lt hz, k w G H2 g (g.sep l h0 (by rw [hl]; exact fun z => nomatch z)) h2 hw⟩⟩
theorem qd_append {j : Nat} {l : Addr} {xs : List V} (x : Ex B H) (hl : H l = some (.lst xs)) (h0 : B l = none) (hj : σ[j]? = some (some (.ref l))) (h : EvD K te σ B d) (hz : xs.length < 100000)
    (k : ∀ w G H2, Gr B H G H2 → G l = none → H2 l = some (.lst xs) → Dp K G w d → tz D σ (upd H2 l (.lst (xs ++ [w])))) : tSeq (tDrop (tBM K "list" rAppend (tVar j) (tCons te tNil))) tz D σ H := sd_append (D := { D with nx := tz D }) x hl h0 hj h hz k
/-- what B knows stays when the list at l changes -/
theorem ex_upd {l : Addr} {o : HO} (x : Ex B H) (h0 : B l = none) : Ex B (upd H l o) := Ex.mut x h0
/-- list * int -/
theorem dl_rep {k : Int} (ha : EvDL K ta σ H ds) (hb : EvD K tb σ H (.int k)) (h1 : 0 ≤ k) (h2 : k ≤ 1000) (hl : ds.length ≤ 1000) : EvDL K (tOp rRep ta tb) σ H (List.replicate k.toNat ds).flatten := fun H1 x Q q =>
  ha H1 x _ fun p xs G2 H2 g0 h0 g2 hp hxs => hb.mono g2.hg H2 g2.g2 _ fun w G3 H3 g3 hw => by
    have hk := hw.int_of
    subst hk
    have hxl := hxs.length
    have hm : xs.length * k.toNat ≤ 1000 * 1000 := Nat.mul_le_mul (by omega) (by omega)
    have hfl : DpAll K G3 (List.replicate k.toNat xs).flatten (List.replicate k.toNat ds).flatten := by
      generalize k.toNat = n
      induction n with
      | zero => exact .nil
      | succ n ih =>
        rw [List.replicate_succ, List.replicate_succ, List.flatten_cons, List.flatten_cons]
        exact (dpa_mono g3.hg hxs).append ih
    refine ⟨p, k, xs, rfl, rfl, g3.h12 _ _ hp, by omega, by omega, Nat.le_trans hm (by decide), fun p2 hp2 => ?_⟩
    exact q p2 _ G3 _ (fresh_back g3.g2 hp2) (fresh_back (g2.h12.trans g3.h12) hp2) ((g2.trans g3).trans (Gr.mut g3.g2 hp2)) upd_same hfl
/-- xs[:c] of a list that may change later -/
theorem cut_head {α : Type} (xs : List V) (c : Nat) (hc : c ≤ xs.length) : cutV xs none (some (c : Int)) = xs.take c := by
  unfold cutV
  rw [HT.sIx_none, HT.sIx_nat]
  have e : min c xs.length = c := by omega
  rw [e]
  rfl
/-- enumerate in a comprehension, counted from k0 -/
theorem lc_turn {G1 H2 Hc : Hp} {Dl : Addr} {ys : List V} (hD : H2 Dl = none) (a1 : B Dl = none) (a2 : Gr G1 H2 B Hc) (a3 : Hc Dl = some (.lst ys)) (a4 : DpAll K B ys es) (hlen : ys.length ≤ 50000) (o : Option PyData) (ht : EvT t σ2 B o.isSome)
    (he : ∀ e, o = some e → EvD K te σ2 B e) {P : Hp → Prop} (hP : ∀ G' ys' H', G' Dl = none → Gr G1 H2 G' H' → H' Dl = some (.lst ys') → DpAll K G' ys' (es ++ o.toList) → P H') :
    t σ2 Hc fun b H3 => if b = true then te σ2 H3 fun w H4 => ∃ acc, H4 Dl = some (.lst acc) ∧ acc.length < sizeLine ∧ P (upd H4 Dl (.lst (acc ++ [w]))) else P H3 := by
  refine ht Hc a2.g2 _ fun H3 e3 => ?_
  cases o with
  | none =>
    show P H3
    exact hP B ys H3 a1 ⟨a2.hg, a2.g2.trans e3, a2.h12.trans e3, a2.sep⟩ (e3 _ _ a3) (by simpa using a4)
  | some e =>
    show te σ2 H3 fun w H4 => ∃ acc, H4 Dl = some (.lst acc) ∧ acc.length < sizeLine ∧ P (upd H4 Dl (.lst (acc ++ [w])))
    refine he e rfl H3 (a2.g2.trans e3) _ fun w G4 H4 g4 hw4 => ?_
    have hG4 : G4 Dl = none := g4.sep Dl a1 (by rw [e3 _ _ a3]; exact fun z => nomatch z)
    refine ⟨ys, g4.h12 _ _ (e3 _ _ a3), sz_lt (by omega), hP G4 _ _ hG4 ⟨a2.hg.trans g4.hg, fun b u hu => ?_, Ex.mut ((a2.h12.trans e3).trans g4.h12) hD, fun b h1 h2 => ?_⟩ upd_same ((dpa_mono g4.hg a4).append (.one hw4))⟩
    · rw [upd_ne (ne_of_none hu hG4)]
      exact g4.g2 b u hu
    · refine g4.sep b (a2.sep b h1 h2) fun z => ?_
      cases q2 : H2 b with
      | none => exact h2 q2
      | some o =>
        rw [(a2.h12.trans e3) b o q2] at z
        cases z
theorem gr_more {G1 H2 G Hc Hd : Hp} (a : Gr G1 H2 G Hc) (e : Ex Hc Hd) : Gr G1 H2 G Hd := ⟨a.hg, a.g2.trans e, a.h12.trans e, a.sep⟩
def mapFrom (k0 : Int) (f : Int → PyData → PyData) : List PyData → List PyData
  | [] => []
  | d :: ds => f k0 d :: mapFrom (k0 + 1) f ds
theorem mapFrom_snoc (f : Int → PyData → PyData) (d : PyData) : ∀ (ds : List PyData) (k0 : Int), mapFrom k0 f (ds ++ [d]) = mapFrom k0 f ds ++ [f (k0 + (ds.length : Int)) d]
  | [], k0 => by
    show [f k0 d] = [f (k0 + ((0 : Nat) : Int)) d]
    rw [show k0 + ((0 : Nat) : Int) = k0 by omega]
  | x :: ds, k0 => by
    show f k0 x :: mapFrom (k0 + 1) f (ds ++ [d]) = f k0 x :: (mapFrom (k0 + 1) f ds ++ [_])
    rw [mapFrom_snoc f d ds (k0 + 1)]
    congr 3
    rw [List.length_cons]
    congr 1
    omega
theorem mapFrom_length (f : Int → PyData → PyData) : ∀ (ds : List PyData) (k0 : Int), (mapFrom k0 f ds).length = ds.length
  | [], _ => rfl
  | d :: ds, k0 => congrArg Nat.succ (mapFrom_length f ds (k0 + 1))
theorem dl_lcE {j i c : Nat} {k0 : Int} (f : Int → PyData → PyData) (hd : Dp K H v (rows b ds)) (hv : σ[j]? = some (some v)) (hl : ds.length ≤ 40000) (h1 : -(2 ^ 63) ≤ k0) (h2 : k0 < 2 ^ 63) (hw : ∀ y w, wipe (((wipe σ vs).set i (some y)).set c (some w)) vs = wipe σ vs)
    (he : ∀ (n : Nat) (d : PyData) (y : V) (G : Hp), ds[n]? = some d → Ex H G → Dp K G y d → EvD K te (((wipe σ vs).set i (some (.int (k0 + (n : Int))))).set c (some y)) G (f (k0 + (n : Int)) d)) :
    EvDL K (tLc (iEnumS K (tCons (tVar j) tNil) (tCons (tC (.int k0)) tNil)) (gRow K 2 (gCons (gName i) (gCons (gName c) gNil))) tYes te vs) σ H (mapFrom k0 f ds) := fun H1 x Q q => by
  obtain ⟨a, xs, rfl, hr, ha⟩ := row_of hd
  have hxl := ha.length
  let Pv : Addr → Nat → Hp → Prop := fun Dl n H' => ∃ G ys, G Dl = none ∧ Gr H H1 G H' ∧ H' Dl = some (.lst ys) ∧ DpAll K G ys (mapFrom k0 f (ds.take n))
  have h0 : ∀ Dl, H1 Dl = none → Pv Dl 0 (upd H1 Dl (.lst [])) := fun Dl hD => ⟨H, [], fresh_back x hD, Gr.mut x hD, upd_same, .nil⟩
  have fin : ∀ Dl, H1 Dl = none → ∀ H', Pv Dl ds.length H' → Q (.ref Dl) H' := fun Dl hD H' ⟨G, ys, a1, a2, a3, a4⟩ => by
    rw [List.take_length] at a4
    exact q Dl ys G H' a1 hD a2 a3 a4
  have turn : ∀ Dl, H1 Dl = none → ∀ (n : Nat) (y : V) (H' H'' : Hp), n < xs.length → Pv Dl n H' → (∃ T w, y = .ref T ∧ H' T = none ∧ H'' = upd H' T (.tup [.int (k0 + (n : Nat)), w]) ∧ xs[n]? = some w) →
      gRow K 2 (gCons (gName i) (gCons (gName c) gNil)) y (wipe σ vs) H'' fun σ2 H2' => wipe σ2 vs = wipe σ vs ∧ tYes σ2 H2' fun b H3 =>
        if b = true then te σ2 H3 fun w H4 => ∃ acc, H4 Dl = some (.lst acc) ∧ acc.length < sizeLine ∧ Pv Dl (n + 1) (upd H4 Dl (.lst (acc ++ [w]))) else Pv Dl (n + 1) H3 := by
    rintro Dl hD n y H' H'' hn ⟨G, ys, a1, a2, a3, a4⟩ ⟨T, w, rfl, hT, rfl, hx⟩
    obtain ⟨d, hdi, hdy⟩ := ha.get hx
    refine ⟨T, [.int (k0 + (n : Nat)), w], rfl, .inr (st_of upd_same), rfl, _, _, rfl, _, _, rfl, rfl, hw _ _, ?_⟩
    have hlen : ys.length ≤ 50000 := by
      rw [a4.length, mapFrom_length, List.length_take]
      omega
    refine lc_turn hD a1 (gr_more a2 (Ex.new hT)) (Ex.new hT _ _ a3) a4 hlen (some (f (k0 + (n : Int)) d)) et_yes (fun e ee => ?_) fun G' ys' H3 b1 b2 b3 b4 => ⟨G', ys', b1, b2, b3, ?_⟩
    · cases ee
      exact he n d w G hdi a2.hg (dp_mono a2.hg hdy)
    · rw [List.take_add_one, hdi]
      show DpAll K G' ys' (mapFrom k0 f (ds.take n ++ [d]))
      rw [mapFrom_snoc, List.length_take, show min n ds.length = n by omega]
      exact b4
  have Gstay : ∀ Dl n H', Pv Dl n H' → Ex H H' := fun Dl n H' ⟨G, ys, _, a2, _⟩ => a2.hg.trans a2.g2
  refine ⟨_, hv, .ref a, k0, rfl, rfl, h1, h2, a, rfl, ?_⟩
  rcases hr with hr | hr
  · exact .inl ⟨⟨xs, ex_l x hr⟩, fun Dl hD => lc_it walk_enumL (Pv Dl) (h0 Dl hD) (fun n H' _ p => ex_l (Gstay Dl n H' p) hr) (turn Dl hD) (by rw [hxl]; exact fin Dl hD)⟩
  · exact .inr ⟨⟨xs, ex_t x hr⟩, fun Dl hD => lc_it walk_enumT (Pv Dl) (h0 Dl hD) (fun n H' _ p => ex_t (Gstay Dl n H' p) hr) (turn Dl hD) (by rw [hxl]; exact fin Dl hD)⟩

/-! ### reversed -/
theorem walk_revT {a : Addr} {xs : List V} : Walk (RT.ItvT K a xs.length) xs.length (fun H => SqT K H a xs) (fun i H x H' => H' = H ∧ xs[xs.length - 1 - i]? = some x) :=
  ⟨fun i _ hi q => ⟨hi, xs, xs[xs.length - 1 - i]'(by omega), q, by simp [show xs.length - 1 - i < xs.length by omega]⟩, fun _ _ => Nat.le_refl _, fun _ _ _ _ _ q y => ⟨y.1, y.2 xs q⟩⟩
theorem sd_forRev {j : Nat} (e : Ex B H) (hd : Dp K B v (rows b ds)) (hv : σ[j]? = some (some v)) (Pv : Nat → L2.St → Hp → Prop) (h0 : Pv 0 σ H) (hG : ∀ i σ' H', i ≤ ds.length → Pv i σ' H' → Ex B H')
    (hs : ∀ i d x σ' H', i < ds.length → ds[ds.length - 1 - i]? = some d → Dp K B x d → Pv i σ' H' → g x σ' H' fun σ2 H2 => tu { D with nx := Pv (i + 1), ct := Pv (i + 1), bk := D.nx } σ2 H2)
    (hn : ∀ σ' H', Pv ds.length σ' H' → D.nx σ' H') : tFor (RT.iRevA K (tVar j)) g tu D σ H := by
  obtain ⟨a, xs, rfl, hr, ha⟩ := row_of hd
  have hl := ha.length
  have turn : ∀ (i : Nat) (x : V) (σ' : L2.St) (H1 H1' : Hp), i < xs.length → Pv i σ' H1 → (H1' = H1 ∧ xs[xs.length - 1 - i]? = some x) → g x σ' H1' fun σ2 H2 => tu { D with nx := Pv (i + 1), ct := Pv (i + 1), bk := D.nx } σ2 H2 := by
    rintro i x σ' H1 _ hi p ⟨rfl, hx⟩
    obtain ⟨d, h1, h2⟩ := ha.get hx
    rw [hl] at h1
    exact hs i d x σ' _ (by omega) h1 h2 p
  refine ⟨_, hv, a, xs, rfl, ?_⟩
  rcases hr with hr | hr
  · exact .inl ⟨ex_l e hr, for_it walk_rev Pv h0 (fun i σ' H' hi p => ex_l (hG i σ' H' (by omega) p) hr) turn (by rw [hl]; exact hn)⟩
  · exact .inr ⟨ex_t e hr, for_it walk_revT Pv h0 (fun i σ' H' hi p => ex_t (hG i σ' H' (by omega) p) hr) turn (by rw [hl]; exact hn)⟩
theorem qd_forRev {j : Nat} (e : Ex B H) (hd : Dp K B v (rows b ds)) (hv : σ[j]? = some (some v)) (Pv : Nat → L2.St → Hp → Prop) (h0 : Pv 0 σ H) (hG : ∀ i σ' H', i ≤ ds.length → Pv i σ' H' → Ex B H')
    (hs : ∀ i d x σ' H', i < ds.length → ds[ds.length - 1 - i]? = some d → Dp K B x d → Pv i σ' H' → g x σ' H' fun σ2 H2 => tu { D with nx := Pv (i + 1), ct := Pv (i + 1), bk := tz D } σ2 H2)
    (hn : ∀ σ' H', Pv ds.length σ' H' → tz D σ' H') : tSeq (tFor (RT.iRevA K (tVar j)) g tu) tz D σ H := sd_forRev (D := { D with nx := tz D }) e hd hv Pv h0 hG hs hn

/-- [x for part in reversed(row of lists) for x in part] -/
theorem dl_lc2rev {j a c : Nat} {dss : List (List PyData)} (hd : Dp K H v (rows b (dss.map .list))) (hv : σ[j]? = some (some v)) (hl : dss.flatten.length ≤ 40000) (hac : a ≠ c) (ha' : a < σ.length) (hc' : c < σ.length)
    (hw : ∀ y, wipe ((wipe σ [a, c]).set a (some y)) [a, c] = wipe σ [a, c]) (hw1 : ∀ y z, wipe ((wipe ((wipe σ [a, c]).set a (some y)) [c]).set c (some z)) [c] = wipe ((wipe σ [a, c]).set a (some y)) [c]) :
    EvDL K (tLc2 (RT.iRevA K (tVar j)) (gName a) tYes (iRow K (tVar a)) (gName c) tYes (tVar c) [a, c] [c]) σ H dss.reverse.flatten := fun H1 x Q q => by
  obtain ⟨ad, xs, rfl, hr, hx⟩ := row_of hd
  have hxl : xs.length = dss.length := by rw [hx.length, List.length_map]
  let Pd : Addr → List PyData → Hp → Prop := fun Dl es H' => ∃ G ys, G Dl = none ∧ Gr H H1 G H' ∧ H' Dl = some (.lst ys) ∧ DpAll K G ys es
  have stay : ∀ Dl es H', Pd Dl es H' → Ex H H' := fun Dl es H' ⟨G, ys, _, a2, _⟩ => a2.hg.trans a2.g2
  have fl : ∀ i, ((dss.reverse.take i).flatten).length ≤ 40000 := fun i => by
    have h1 : ((dss.reverse.take i).flatten).length ≤ (dss.reverse.flatten).length := by
      rw [← List.take_append_drop i dss.reverse, List.flatten_append, List.length_append, List.take_append_drop]
      omega
    have h2 : (dss.reverse.flatten).length = dss.flatten.length := by
      rw [List.length_flatten, List.length_flatten, List.map_reverse, List.sum_reverse]
    omega
  -- one outer turn
  have turn : ∀ Dl, H1 Dl = none → ∀ (i : Nat) (y : V) (H' : Hp), i < xs.length → xs[xs.length - 1 - i]? = some y → Pd Dl (dss.reverse.take i).flatten H' →
      ∃ (σ2 : L2.St), σ2 = (wipe σ [a, c]).set a (some y) ∧ (iRow K (tVar a)) σ2 H' fun J1 H4 => ∃ W1 : Nat → Nat → Hp → Prop, (∃ m, W1 0 m H4) ∧ ∀ j' k H, W1 j' k H →
        (J1.stop j' H ∧ Pd Dl (dss.reverse.take (i + 1)).flatten H) ∨ (J1.go j' H ∧ ∃ Nx1 : Hp → Prop, (∀ H', Nx1 H' → ∃ k', k' < k ∧ W1 (j' + 1) k' H') ∧ ∀ x H', J1.yld j' H x H' → (gName c) x (wipe σ2 [c]) H' fun σ3 H5 => wipe σ3 [c] = wipe σ2 [c] ∧ tYes σ3 H5 fun b H6 =>
          if b = true then (tVar c) σ3 H6 fun y H7 => ∃ acc, H7 Dl = some (.lst acc) ∧ acc.length < sizeLine ∧ Nx1 (upd H7 Dl (.lst (acc ++ [y]))) else Nx1 H6) := by
    intro Dl hD i y H' hi hy p
    obtain ⟨d, h1, h2⟩ := hx.get hy
    rw [hxl, List.getElem?_map] at h1
    have hrev : dss.reverse[i]? = dss[dss.length - 1 - i]? := List.getElem?_reverse (by omega)
    cases hq : dss[dss.length - 1 - i]? with
    | none =>
      rw [hq] at h1
      cases h1
    | some es =>
      rw [hq] at h1
      cases h1
      rw [hq] at hrev
      have hnext : (dss.reverse.take (i + 1)).flatten = (dss.reverse.take i).flatten ++ es := by
        rw [List.take_add_one, hrev, List.flatten_append]
        simp
      obtain ⟨q1, ys, rfl, hs, hes⟩ := Dp.lst_of h2
      have hel := hes.length
      have hlen1 := fl (i + 1)
      rw [hnext, List.length_append] at hlen1
      refine ⟨_, rfl, _, by rw [List.getElem?_set_self (by rw [wipe_length]; exact ha')], q1, rfl, .inl ⟨⟨ys, ex_l (stay Dl _ H' p) hs⟩, ?_⟩⟩
      refine ⟨fun j' k H' => k = ys.length - j' ∧ j' ≤ ys.length ∧ Pd Dl ((dss.reverse.take i).flatten ++ es.take j') H', ⟨ys.length, rfl, Nat.zero_le _, by simpa using p⟩, ?_⟩
      rintro j' k H'' ⟨rfl, hj, p'⟩
      by_cases hlt : j' < ys.length
      · refine .inr ⟨⟨ys, ys[j'], ex_l (stay Dl _ H'' p') hs, by simp [hlt]⟩, fun H3 => Pd Dl ((dss.reverse.take i).flatten ++ es.take (j' + 1)) H3, fun H3 p3 => ⟨ys.length - (j' + 1), by omega, rfl, hlt, p3⟩, fun z H3 hz => ?_⟩
        obtain ⟨rfl, hz⟩ := hz
        have hzi := hz ys (ex_l (stay Dl _ _ p') hs)
        obtain ⟨d', h3, h4⟩ := hes.get hzi
        refine ⟨hw1 _ _, ?_⟩
        obtain ⟨G, acc, a1, a2, a3, a4⟩ := p'
        have hlc : acc.length ≤ 50000 := by
          rw [a4.length, List.length_append, List.length_take]
          omega
        have tk : (dss.reverse.take i).flatten ++ es.take (j' + 1) = ((dss.reverse.take i).flatten ++ es.take j') ++ (some d').toList := by
          rw [List.take_add_one, h3, List.append_assoc]
        refine lc_turn (o := some d') hD a1 a2 a3 a4 hlc et_yes (fun e ee => ?_) fun G' ys' H5 b1 b2 b3 b4 => ⟨G', ys', b1, b2, b3, by rw [tk]; exact b4⟩
        cases ee
        refine d_var ?_ (dp_mono a2.hg h4)
        rw [List.getElem?_set_self]
        rw [wipe_length, List.length_set, wipe_length]
        exact hc'
      · have ej : j' = ys.length := by omega
        subst ej
        rw [hel, List.take_length, ← hnext] at p'
        exact .inl ⟨⟨ys, ex_l (stay Dl _ H'' p') hs, Nat.le_refl _⟩, p'⟩
  have go : ∀ (J : It) (Gx : Hp → Prop), Walk J xs.length Gx (fun i H x H' => H' = H ∧ xs[xs.length - 1 - i]? = some x) → (∀ H', Ex H H' → Gx H') → ∀ Dl, H1 Dl = none → ∃ W : Nat → Nat → Hp → Prop, (∃ m, W 0 m (upd H1 Dl (.lst []))) ∧ ∀ i m H, W i m H →
      (J.stop i H ∧ Q (.ref Dl) H) ∨ (J.go i H ∧ ∃ Nx : Hp → Prop, (∀ H', Nx H' → ∃ m', m' < m ∧ W (i + 1) m' H') ∧ ∀ x H', J.yld i H x H' → (gName a) x (wipe σ [a, c]) H' fun σ2 H2 => wipe σ2 [a, c] = wipe σ [a, c] ∧ tYes σ2 H2 fun b H3 =>
        if b = true then (iRow K (tVar a)) σ2 H3 fun J1 H4 => ∃ W1 : Nat → Nat → Hp → Prop, (∃ m, W1 0 m H4) ∧ ∀ j k H, W1 j k H →
          (J1.stop j H ∧ Nx H) ∨ (J1.go j H ∧ ∃ Nx1 : Hp → Prop, (∀ H', Nx1 H' → ∃ k', k' < k ∧ W1 (j + 1) k' H') ∧ ∀ x H', J1.yld j H x H' → (gName c) x (wipe σ2 [c]) H' fun σ3 H5 => wipe σ3 [c] = wipe σ2 [c] ∧ tYes σ3 H5 fun b H6 =>
            if b = true then (tVar c) σ3 H6 fun y H7 => ∃ acc, H7 Dl = some (.lst acc) ∧ acc.length < sizeLine ∧ Nx1 (upd H7 Dl (.lst (acc ++ [y]))) else Nx1 H6)
        else Nx H3) := by
    intro J Gx wk hGx Dl hD
    refine ⟨fun i m H' => m = xs.length - i ∧ i ≤ xs.length ∧ Pd Dl (dss.reverse.take i).flatten H', ⟨xs.length, rfl, Nat.zero_le _, H, [], fresh_back x hD, Gr.mut x hD, upd_same, .nil⟩, ?_⟩
    rintro i m H' ⟨rfl, hi, p⟩
    have hg := hGx H' (stay Dl _ H' p)
    by_cases hlt : i < xs.length
    · refine .inr ⟨wk.goes i H' hlt hg, fun H3 => Pd Dl (dss.reverse.take (i + 1)).flatten H3, fun H3 p3 => ⟨xs.length - (i + 1), by omega, rfl, hlt, p3⟩, fun y H3 hy => ?_⟩
      obtain ⟨e1, hy2⟩ := wk.yields i H' y H3 hlt hg hy
      subst e1
      obtain ⟨σ2, rfl, h2⟩ := turn Dl hD i y _ hlt hy2 p
      exact ⟨hw y, h2⟩
    · have ei : i = xs.length := by omega
      subst ei
      refine .inl ⟨wk.stops H' hg, ?_⟩
      rw [hxl, ← List.length_reverse, List.take_length] at p
      obtain ⟨G, ys, a1, a2, a3, a4⟩ := p
      exact q Dl ys G H' a1 hD a2 a3 a4
  refine ⟨_, hv, ad, xs, rfl, ?_⟩
  rcases hr with hr | hr
  · exact .inl ⟨ex_l x hr, fun Dl hD => go _ _ walk_rev (fun H' e => ex_l e hr) Dl hD⟩
  · exact .inr ⟨ex_t x hr, fun Dl hD => go _ _ walk_revT (fun H' e => ex_t e hr) Dl hD⟩
end
end Tb
end

section
set_option Elab.async false
set_option linter.all false
set_option maxRecDepth 100000
set_option maxHeartbeats 1000000
/-! Toss base 8: a tuple whose object is known, dict(towers), loops over new rows, list(range), a row and another one. -/
namespace Tb
open PySem PySem.Spec PyProof.Rows L2 Evl

section
variable {X : Cx}
/-- tuple(a list): a new tuple, its object known (it has no dict) -/
theorem call_tuple_fz : CallR X (.type "tuple") (fun xs H Q => ∃ p ys, xs = [V.ref p] ∧ SqL X.K H p ys ∧ ∀ l o, H l = none → o.cls = .type "tuple" → o.dict = none → Q (.ref l) (upd H l (.frz o (.tup ys)))) := by
  intro pns st σ H xs us Q I r h
  obtain ⟨p, ys, rfl, hq, q⟩ := h
  obtain ⟨u, rfl, rx⟩ := vals1 r
  cases rx
  obtain ⟨its, r', pl, hz⟩ := I.list hq
  have hlen := r'.length
  refine call_tuple_list pl.isList (fun h' kp => ?_) (by simp only [List.size_toArray] <;> omega)
  have I1 : Inv X pns σ H { st with heap := h' } := I.kept (t' := st.toks) kp
  have hget : (h'.push { cls := .type "tuple", data := .seq its.toArray }).get? h'.objs.size = some { cls := .type "tuple", data := .seq its.toArray } := Heap.get?_push_size _ rfl
  have I2 : Inv X pns σ (upd H h'.objs.size (.frz { cls := .type "tuple", data := .seq its.toArray } (.tup ys))) { st with heap := h'.push { cls := .type "tuple", data := .seq its.toArray } } :=
    I1.laid (t' := st.toks) (fun _ _ z => Heap.get?_push_of_some _ z) (Nat.le_refl _) (show ObjOk X.prog X.w _ _ _ (.frz _ (.tup ys)) from ⟨hget, hz, its, r', IsTup.new _ _⟩)
  exact ⟨.ref h'.objs.size, _, I2, rfl, q _ _ (I1.hok.fresh (Nat.le_refl _)) rfl rfl⟩
/-- dict(a tuple of pairs) -/
theorem call_dict_fz (hc : X.calm = true) : CallR X (.type "dict") (fun xs H Q => ∃ (a : Addr) (o : Obj) (ps : List Addr) (kvs : List (Key × V)), xs = [V.ref a] ∧ H a = some (.frz o (.tup (ps.map V.ref))) ∧ o.cls = .type "tuple" ∧ o.dict = none ∧
    Paired (fun p kv => SqT X.K H p [kV kv.1, kv.2]) ps kvs ∧ ∀ p, H p = none → Q (.ref p) (upd H p (.dK (mergeK [] kvs)))) := by
  intro pns st σ H xs us Q I r h
  obtain ⟨a, o, ps, kvs, rfl, ha, hcl, hdn, hp, q⟩ := h
  obtain ⟨u, rfl, rx⟩ := vals1 r
  cases rx
  obtain ⟨hget, hz, its, rv, ht⟩ := (show ObjOk X.prog X.w H st.heap a (.frz o (.tup (ps.map V.ref))) from I.hok a _ ha)
  have ei := refs_at rv
  subst ei
  rw [List.length_map] at hz
  obtain ⟨prs, rel, hl, hpr⟩ := pairs_of I hp
  obtain ⟨o2, ho2, hc2, n, hd2⟩ := ht
  rw [hget] at ho2
  cases ho2
  -- the keys as they stand
  have hks : ∃ ws : List (Value × Value), ws.length = prs.length ∧ ∀ (j : Nat) (k v : Value), ws[j]? = some (k, v) → ∃ b q', ps[j]? = some b ∧ prs[j]? = some q' ∧ v = q'.2 ∧ IsTup st.heap b #[k, v] ∧ keyIs q'.1 k = true := by
    have all : ∀ m, m ≤ prs.length → ∃ ws : List (Value × Value), ws.length = m ∧ ∀ (j : Nat) (k v : Value), ws[j]? = some (k, v) → ∃ b q', ps[j]? = some b ∧ prs[j]? = some q' ∧ v = q'.2 ∧ IsTup st.heap b #[k, v] ∧ keyIs q'.1 k = true := by
      intro m
      induction m with
      | zero => exact fun _ => ⟨[], rfl, fun j k v e => by simp at e⟩
      | succ m ih =>
        intro hm
        obtain ⟨ws, h1, h2⟩ := ih (by omega)
        have hlt : m < prs.length := by omega
        obtain ⟨b, u, e1, e2, e3⟩ := hpr m prs[m] (List.getElem?_eq_getElem hlt)
        refine ⟨ws ++ [(u, prs[m].2)], by rw [List.length_append, h1]; rfl, fun j k v e => ?_⟩
        by_cases hj : j < ws.length
        · rw [List.getElem?_append_left hj] at e
          exact h2 j k v e
        · rw [List.getElem?_append_right (by omega)] at e
          have hj2 : j = m := by
            by_cases z : j - ws.length = 0
            · omega
            · obtain ⟨c, hc⟩ : ∃ c, j - ws.length = c + 1 := ⟨j - ws.length - 1, by omega⟩
              rw [hc] at e
              simp at e
          subst hj2
          rw [h1, Nat.sub_self] at e
          cases e
          exact ⟨b, _, e1, List.getElem?_eq_getElem hlt, rfl, e2, e3⟩
    exact all _ (Nat.le_refl _)
  obtain ⟨ws, hwl, hws⟩ := hks
  let Ts : Nat → Addr := fun j => ps.getD j 0
  have ok : PlainSeq "tuple" st.heap a (ps.map Value.ref).toArray ∧ PairItems st.heap (ps.map Value.ref).toArray Ts ws := by
    refine ⟨⟨o, n, hget, hcl, hdn, hd2⟩, by simp [hwl, hl], fun j k v e => ?_⟩
    obtain ⟨b, q', e1, e2, e3, e4, e5⟩ := hws j k v e
    have eT : Ts j = b := by
      show ps.getD j 0 = b
      rw [List.getD_eq_getElem?_getD, e1]
      rfl
    rw [eT]
    exact ⟨by simp [e1], .inl e4⟩
  refine PySem.call_dict_pairs (knd := mixKind X.prog X.w) (kvs := prs) (PairArg.tuple a (ps.map Value.ref).toArray Ts ws) (I.ok.hd hc) ok ⟨hwl.symm, fun i k v e => ?_⟩ (by rw [hwl, hl]; exact hz) fun h' tk hd' hk => ?_
  · obtain ⟨b, q', e1, e2, e3, e4, e5⟩ := hws i k v e
    exact ⟨q'.1, by rw [e2, e3], e5⟩
  · have hm : (st.heap.objs.size == sysModules) = false := beq_eq_false_iff_ne.mpr (Nat.ne_of_gt I.big)
    have hlen : (mergeK [] kvs).length ≤ sizeLine := Nat.le_trans (length_mergeK kvs []) (by rw [List.length_nil, Nat.zero_add, rel.length, hl]; exact hz)
    exact ⟨.ref st.heap.objs.size, upd H st.heap.objs.size (.dK (mergeK [] kvs)), I.laid (t' := tk) (fun b o z => hk b o (by simp) z) (Nat.le_refl _) (show ObjOk X.prog X.w _ _ _ (.dK (mergeK [] kvs)) from ⟨hlen, hm, merged [] prs, KV.merge rel .nil, hd'⟩), rfl, q _ (I.hok.fresh (Nat.le_refl _))⟩
end

section
variable {K : PySem.W.Frag} {σ : L2.St} {B H H' : Hp} {ta tb te tx tl : TE} {t u : TT} {d e z : PyData} {ds es : List PyData} {D : Ends} {tu tw tz : TS} {g : TG} {b : Bool} {v : V}
/-- for .. in a row that an expression gives -/
theorem sd_forN (x : Ex B H) (h : EvD K tl σ B (rows b ds))
    (k : ∀ v G H1, Gr B H G H1 → Dp K G v (rows b ds) → ∃ Pv : Nat → L2.St → Hp → Prop, Pv 0 σ H1 ∧ (∀ i σ' H', i ≤ ds.length → Pv i σ' H' → Ex G H') ∧
      (∀ i d y σ' H', ds[i]? = some d → Dp K G y d → Pv i σ' H' → g y σ' H' fun σ2 H2 => tu { D with nx := Pv (i + 1), ct := Pv (i + 1), bk := D.nx } σ2 H2) ∧ ∀ σ' H', Pv ds.length σ' H' → D.nx σ' H') : tFor (iRow K tl) g tu D σ H := by
  refine h H x _ fun v G H1 gg hd => ?_
  obtain ⟨Pv, h0, hG, hs, hn⟩ := k v G H1 gg hd
  obtain ⟨a, xs, rfl, hr, ha⟩ := row_of hd
  have hl := ha.length
  refine ⟨a, rfl, ?_⟩
  rcases hr with hr | hr
  · refine .inl ⟨⟨xs, ex_l gg.g2 hr⟩, for_list (xs := xs) Pv h0 (fun i σ' H' hi p => ex_l (hG i σ' H' (by omega) p) hr) (fun i y σ' H' hy p => ?_) (by rw [hl]; exact hn)⟩
    obtain ⟨d, h1, h2⟩ := ha.get hy
    exact hs i d y σ' H' h1 h2 p
  · refine .inr ⟨⟨xs, ex_t gg.g2 hr⟩, for_tup (xs := xs) Pv h0 (fun i σ' H' hi p => ex_t (hG i σ' H' (by omega) p) hr) (fun i y σ' H' hy p => ?_) (by rw [hl]; exact hn)⟩
    obtain ⟨d, h1, h2⟩ := ha.get hy
    exact hs i d y σ' H' h1 h2 p
theorem qd_forN (x : Ex B H) (h : EvD K tl σ B (rows b ds))
    (k : ∀ v G H1, Gr B H G H1 → Dp K G v (rows b ds) → ∃ Pv : Nat → L2.St → Hp → Prop, Pv 0 σ H1 ∧ (∀ i σ' H', i ≤ ds.length → Pv i σ' H' → Ex G H') ∧
      (∀ i d y σ' H', ds[i]? = some d → Dp K G y d → Pv i σ' H' → g y σ' H' fun σ2 H2 => tu { D with nx := Pv (i + 1), ct := Pv (i + 1), bk := tz D } σ2 H2) ∧ ∀ σ' H', Pv ds.length σ' H' → tz D σ' H') : tSeq (tFor (iRow K tl) g tu) tz D σ H := sd_forN (D := { D with nx := tz D }) x h k
/-- list(range(i, j)) -/
theorem dl_listRg {i j : Int} (ha : EvD K ta σ B (.int i)) (hb : EvD K tb σ B (.int j)) (h0 : 0 ≤ i) (h1 : j ≤ 16777216) (h2 : i ≤ 16777216) (h3 : 0 ≤ j) :
    EvDL K (tLstRg (tRg2 ta tb)) σ B ((List.range (j - i).toNat).map fun n => .int (i + (n : Nat))) := fun H1 x Q q =>
  ha H1 x _ fun v G2 H2 g2 hv => hb.mono g2.hg H2 g2.g2 _ fun w G3 H3 g3 hw => by
    rw [hv.int_of, hw.int_of]
    refine ⟨i, j, rfl, rfl, .of_le h0 h1 h2 h3, fun p hp => q p _ G3 _ (fresh_back g3.g2 hp) (fresh_back (g2.h12.trans g3.h12) hp) ((g2.trans g3).trans (Gr.mut g3.g2 hp)) upd_same ?_⟩
    have all : ∀ l : List Nat, DpAll K G3 (l.map fun n => V.int (i + (n : Nat))) (l.map fun n => PyData.int (i + (n : Nat))) := fun l => by
      induction l with
      | nil => exact .nil
      | cons a l ih => exact .cons (.int _) ih
    exact all _
/-- a list + a list, both new, or known -/
theorem dl_cat (ha : EvDL K ta σ B ds) (hb : EvDL K tb σ B es) (hl : ds.length + es.length ≤ 100000) : EvDL K (tOp rCat ta tb) σ B (ds ++ es) := fun H1 x Q q =>
  ha H1 x _ fun p xs G2 H2 g0 h0 g2 hp hxs => hb.mono g2.hg H2 g2.g2 _ fun p2 ys G3 H3 g30 h30 g3 hp2 hys => by
    have hp3 := g3.h12 _ _ hp
    refine ⟨p, p2, xs, ys, rfl, rfl, hp3, hp2, sz_of (by rw [hxs.length, hys.length]; exact hl), fun p3 hp3' => q p3 _ G3 _ (fresh_back g3.g2 hp3') (fresh_back (g2.h12.trans g3.h12) hp3') ((g2.trans g3).trans (Gr.mut g3.g2 hp3')) upd_same ((dpa_mono g3.hg hxs).append hys)⟩
/-- the first n of a list that is known -/
theorem dl_first {n : Nat} (ha : EvD K ta σ B (.list ds)) (hb : EvD K tb σ B (.int (n : Int))) : EvDL K (tSl (rSlL K) ta tNoPart (tPart tb)) σ B (ds.take n) := fun H1 x Q q =>
  ha H1 x _ fun v G2 H2 g2 hv => hb.mono g2.hg H2 g2.g2 _ fun w G3 H3 g3 hw => by
    obtain ⟨a, xs, rfl, hs, hds⟩ := Dp.lst_of hv
    rw [hw.int_of]
    have hs3 := ex_l g3.hg hs
    have hds3 := dpa_mono g3.hg hds
    have hcut : cutV xs none (some (n : Int)) = xs.take n := by
      unfold cutV
      rw [HT.sIx_none, HT.sIx_nat]
      show (xs.drop 0).take (min n xs.length - 0) = xs.take n
      rw [List.drop_zero, Nat.sub_zero]
      by_cases h : n ≤ xs.length
      · rw [show min n xs.length = n by omega]
      · rw [show min n xs.length = xs.length by omega, List.take_length, List.take_of_length_le (by omega)]
    refine ⟨n, rfl, a, xs, rfl, ex_l g3.g2 hs3, fun p hp => ?_⟩
    rw [hcut]
    exact q p _ G3 _ (fresh_back g3.g2 hp) (fresh_back (g2.h12.trans g3.h12) hp) ((g2.trans g3).trans (Gr.mut g3.g2 hp)) upd_same (hds3.take n)
end
end Tb
end

section
set_option Elab.async false
set_option linter.all false
set_option maxRecDepth 100000
set_option maxHeartbeats 1000000
/-! Toss base 9: tuples multiplied and added, extend by a tuple, the least of a list, in, while. -/
namespace Tb
open PySem PySem.Spec PyProof.Rows L2 Evl

/-- the machine's tuple * 1: the tuple itself -/
theorem tm_one (l : Addr) (items : Array Value) (n : Nat) (dd : Option Addr) (sl : Array (Option Value)) (x : Int) (u : Tok) (c0 : (decide (x < -(2 ^ 63)) || decide (x ≥ 2 ^ 63)) = false) (c1 : (items.isEmpty || x == 1) = true) :
    Meets (Builtin.«tuple.__mul__» ⟨[.ref l, .int x u], []⟩) (fun _ R s => s.heap.get? l = some { cls := .type "tuple", dict := dd, data := .seq items n, slots := sl } ∧ R (.ok (.ret (Value.ref l))) s) :=
  .of_wp fun prog w A R s h => by
    obtain ⟨hp, g, d, tk, os⟩ := s
    obtain ⟨hl, h⟩ := h
    have f1 := AutoSeq1.idx_int
    wp_walk using wpAny_loadPart' hl
    repeat (first
      | (refine wpAny_ite_false (decide_eq_false (by rw [c0]; exact Bool.false_ne_true)) ?_; wp_walk using wpAny_loadPart' hl)
      | (refine wpAny_ite_true (decide_eq_true c1) ?_; wp_walk using wpAny_loadPart' hl))
    exact ⟨_, rfl, h⟩
/-- the machine's tuple * 0: an empty tuple -/
theorem tm_none (l : Addr) (items : Array Value) (n : Nat) (dd : Option Addr) (sl : Array (Option Value)) (x : Int) (u : Tok) (c0 : (decide (x < -(2 ^ 63)) || decide (x ≥ 2 ^ 63)) = false) (c1 : (items.isEmpty || x == 1) = false) (c2 : (decide (x ≤ 0) || items.isEmpty) = true) :
    Meets (Builtin.«tuple.__mul__» ⟨[.ref l, .int x u], []⟩) (fun _ R s => s.heap.get? l = some { cls := .type "tuple", dict := dd, data := .seq items n, slots := sl } ∧
      R (.ok (.ret (Value.ref s.heap.objs.size))) { s with heap := s.heap.push { cls := Value.type "tuple", data := Data.seq #[] }, toks := s.toks }) :=
  .of_wp fun prog w A R s h => by
    obtain ⟨hp, g, d, tk, os⟩ := s
    obtain ⟨hl, h⟩ := h
    have f1 := AutoSeq1.idx_int
    wp_walk using wpAny_loadPart' hl
    repeat (first
      | (refine wpAny_ite_false (decide_eq_false (by rw [c0]; exact Bool.false_ne_true)) ?_; wp_walk using wpAny_loadPart' hl)
      | (refine wpAny_ite_false (decide_eq_false (by rw [c1]; exact Bool.false_ne_true)) ?_; wp_walk using wpAny_loadPart' hl)
      | (refine wpAny_ite_true (decide_eq_true c2) ?_; wp_walk using wpAny_loadPart' hl))
    exact ⟨_, rfl, h⟩
/-- tuple * int, of any number up to 1,000 -/
def rRepA (K : PySem.W.Frag) : R2 := fun x y H Q => ∃ l k xs, x = .ref l ∧ y = .int k ∧ SqT K H l xs ∧ xs ≠ [] ∧ 0 ≤ k ∧ k ≤ 1000 ∧ xs.length ≤ 1000 ∧ (k = 1 → Q (.ref l) H) ∧ (k ≠ 1 → ∀ p, H p = none → Q (.ref p) (upd H p (.tup (List.replicate k.toNat xs).flatten)))
section
variable {X : Cx}
theorem op_repA : OpR X (binaryOp .Mult) (rRepA X.K) := by
  intro pins s σ H x y v u Q I rx ry h
  obtain ⟨l, k, xs, rfl, rfl, hT, hne, h0, h1, hz, q1, q2⟩ := h
  by_cases hk2 : 2 ≤ k
  · exact op_repT pins s σ H _ _ v u Q I rx ry ⟨l, k, xs, rfl, rfl, hT, hne, hk2, h1, hz, q2 (by omega)⟩
  cases rx
  obtain ⟨t, rfl⟩ := ry
  obtain ⟨its, r, ⟨⟨cls, dd, data, sl⟩, ho, hc, n, hd⟩, hs⟩ := I.tuple hT
  simp only at hc hd
  subst hc hd
  have hle : its.length = xs.length := r.length.symm
  have hn : its ≠ [] := fun e => hne (by
    rw [e] at hle
    exact List.eq_nil_of_length_eq_zero hle.symm)
  have hi : its.toArray.isEmpty = false := by
    cases its with
    | nil => exact absurd rfl hn
    | cons a b => rfl
  have c0 : (decide (k < -(2 ^ 63)) || decide (k ≥ 2 ^ 63)) = false := by
    rw [decide_eq_false (by omega), decide_eq_false (by omega)] <;> rfl
  by_cases hk1 : k = 1
  · have c1 : (its.toArray.isEmpty || k == 1) = true := by
      rw [hi, Bool.false_or]
      exact beq_iff_eq.mpr hk1
    exact wpAny_binaryOp_repeat_ref (T := "tuple") (U := "int") (by decide) ⟨_, ho, rfl⟩ (fun s' => typeIs_int s' k t) noFill_tuple_mul F.fills_int_mul F.slot_int_rmul repeat_tuple F.slot_int_index.lookup
      (call_meets F.slot_int_rmul (typeIs_int s k t) F.entry_int_rmul (F.args_int_rmul_2 _ _) (int_rmul_tuple k t l its.toArray n dd sl)
        ⟨ho, rfl, ⟨_, ho, rfl⟩, call_meets F.slot_tuple_mul ⟨_, ho, rfl⟩ F.entry_tuple_mul (F.args_tuple_mul_2 _ _) (tm_one l its.toArray n dd sl k t c0 c1) ⟨ho, .ref l, H, I, rfl, q1 hk1⟩⟩)
  · have c1 : (its.toArray.isEmpty || k == 1) = false := by
      rw [hi, Bool.false_or]
      exact beq_eq_false_iff_ne.mpr hk1
    have k0 : k = 0 := by omega
    have c2 : (decide (k ≤ 0) || its.toArray.isEmpty) = true := by
      rw [decide_eq_true (by omega)]
      rfl
    refine wpAny_binaryOp_repeat_ref (T := "tuple") (U := "int") (by decide) ⟨_, ho, rfl⟩ (fun s' => typeIs_int s' k t) noFill_tuple_mul F.fills_int_mul F.slot_int_rmul repeat_tuple F.slot_int_index.lookup
      (call_meets F.slot_int_rmul (typeIs_int s k t) F.entry_int_rmul (F.args_int_rmul_2 _ _) (int_rmul_tuple k t l its.toArray n dd sl)
        ⟨ho, rfl, ⟨_, ho, rfl⟩, call_meets F.slot_tuple_mul ⟨_, ho, rfl⟩ F.entry_tuple_mul (F.args_tuple_mul_2 _ _) (tm_none l its.toArray n dd sl k t c0 c1 c2) ⟨ho, ?_⟩⟩)
    refine ⟨.ref s.heap.objs.size, _, I.laid (t' := s.toks) (o := .tup (List.replicate k.toNat xs).flatten) (fun b ob q => Heap.get?_push_of_some _ q) (Nat.le_refl _) ?_, rfl, q2 hk1 _ (I.hok.fresh (Nat.le_refl _))⟩
    subst k0
    exact ⟨Nat.zero_le _, [], .nil, IsTup.new _ _⟩
/-- the machine's list.extend by a tuple -/
theorem ext_tup (l : Addr) (items : Array Value) (n : Nat) (b : Addr) (items2 : Array Value) (n2 : Nat) (dd : Option Addr) (sl : Array (Option Value)) (hs0 : ¬(!items.isEmpty && Builtin.List.listTooLong (items.size + items2.size)) = true) (hs1 : items.size ≤ sizeLine) (hs2 : items.size + items2.size ≤ sizeLine + 1) :
    Meets (Builtin.«list.extend» ⟨[.ref l, .ref b], []⟩) (fun _ R s => s.heap.get? l = some { cls := .type "list", dict := none, data := .seq items n, slots := #[] } ∧ s.heap.get? b = some { cls := .type "tuple", dict := dd, data := .seq items2 n2, slots := sl } ∧ R (.ok (.ret Value.none)) { s with heap := s.heap.update l (Obj.mapSeq fun x => x ++ items2), toks := s.toks }) :=
  .of_wp fun prog w A R s h => by
    obtain ⟨hp, g, d, tk, os⟩ := s
    obtain ⟨hl, hb, h⟩ := h
    have f1 := AutoSeq1.idx_int
    have f2 := AutoSeq1.sub_tuple_tuple
    have f3 := AutoSeq1.sub_list_list
    have f4 := AutoSeq1.sub_tuple_list
    have f5 := AutoSeq1.sub_list_tuple
    have hz' : (items ++ items2).size ≤ sizeLine + 1 := by
      rw [Array.size_append]
      exact hs2
    wp_walk using (wpAny_updateSeq hl rfl (hz := hs1) (_hz' := hz')), wpAny_loadPart' hl, wpAny_loadPart' hb
    exact ⟨_, rfl, h⟩
def rExtA (K : PySem.W.Frag) : V → List V → Hp → VK → Prop := fun x vs H Q => ∃ l b xs zs, x = .ref l ∧ vs = [.ref b] ∧ H l = some (.lst xs) ∧ SqT K H b zs ∧ xs.length + zs.length ≤ sizeLine ∧ Q .non (upd H l (.lst (xs ++ zs)))
theorem mt_extA : MtM X "list.extend" (rExtA X.K) := by
  intro pins s σ H x vs v us Q I rx rv h
  obtain ⟨l, b, xs, zs, rfl, rfl, hH, hB, hz, q⟩ := h
  cases rx
  obtain ⟨u, rfl, ru⟩ := rv.one
  cases ru
  obtain ⟨z, its, n, r, hl, e⟩ := I.lstM hH
  obtain ⟨its2, r2, ⟨⟨cls, dd, data, sl⟩, ho, hc, n2, hd⟩, hs⟩ := I.tuple hB
  simp only at hc hd
  subst hc hd
  have hl2 := r2.length
  have hsz : its.toArray.size + its2.toArray.size ≤ sizeLine := by rw [List.size_toArray, List.size_toArray]; omega
  have hlong : ¬ (!its.toArray.isEmpty && Builtin.List.listTooLong (its.toArray.size + its2.toArray.size)) = true := by
    rw [notLongL hsz, Bool.and_false]
    exact Bool.false_ne_true
  refine call_meets F.slot_list_extend ⟨_, e, rfl⟩ F.entry_list_extend (F.args_list_extend_2 _ _)
    (ext_tup l its.toArray n b its2.toArray n2 dd sl hlong (by rw [List.size_toArray]; omega) (by omega)) ⟨e, ho, ?_⟩
  refine ⟨.non, _, I.lset (its' := its ++ its2) hH e (by simp) (r.append r2) ?_, rfl, q⟩
  rw [List.length_append]
  omega
/-- the least of a list of ints -/
def rMinL (K : PySem.W.Frag) : List V → Hp → VK → Prop := fun xs H Q => ∃ (a : Addr) (n : Int) (ns : List Int), xs = [.ref a] ∧ SqL K H a ((n :: ns).map V.int) ∧ Q (.int (ns.foldl min n)) H
theorem call_minLI (hc : X.calm = true) (hu : X.A.units + 64 < cLine) : CallR X (.builtin "min") (rMinL X.K) := by
  intro pns st σ H xs us Q I r h
  obtain ⟨a, n, ns, rfl, hs, q⟩ := h
  obtain ⟨u, rfl, ru⟩ := vals1 r
  cases ru
  obtain ⟨its, rv, pl, _⟩ := I.list hs
  obtain ⟨as, hr⟩ := Dp.readsAll I ((n :: ns).map .int) _ its (DpAll.of_ints (n :: ns)) rv
  have hd := depth_ints (n :: ns)
  rw [List.map_cons] at hr hd
  refine PySem.W.min_list_data (I.ok.hd hc) pl.isList (by simpa using hr) (alike_ints (n :: ns)) (by omega) fun i v h' tk bs hv hr' hk => ?_
  rw [PySem.W.minD_ints] at hr'
  cases hr' with
  | int _ t => exact ⟨.int _, H, I.kept hk, ⟨_, rfl⟩, q⟩
end
section
variable {K : PySem.W.Frag} {σ : L2.St} {B H : Hp} {d e z : PyData} {ds es : List PyData} {D : Ends} {tu tz : TS} {t : TT} {te : TE} {b : Bool}
theorem dpa_rep {xs : List V} (n : Nat) (h : DpAll K H xs ds) : DpAll K H (List.replicate n xs).flatten (List.replicate n ds).flatten := by
  induction n with
  | zero => exact .nil
  | succ n ih =>
    rw [List.replicate_succ, List.replicate_succ, List.flatten_cons, List.flatten_cons]
    exact h.append ih
theorem rd_repA {k : Int} (hne : ds ≠ []) (h0 : 0 ≤ k) (h1 : k ≤ 1000) (hl : ds.length ≤ 1000) : RD K (rRepA K) (.tuple ds) (.int k) H (.tuple (List.replicate k.toNat ds).flatten) := fun x y H1 ex hx hy Q q => by
  obtain ⟨a, xs, rfl, hs, hd⟩ := Dp.tup_of hx
  have hlen := hd.length
  refine ⟨a, k, xs, rfl, hy.int_of, ex_t ex hs, fun z => ?_, h0, h1, by omega, fun e => ?_, fun _ p hp => ?_⟩
  · rw [z] at hlen
    exact hne (List.eq_nil_of_length_eq_zero hlen.symm)
  · subst e
    refine q _ H H1 (.refl ex) ?_
    show Dp K H (.ref a) (.tuple (ds ++ []))
    rw [List.append_nil]
    exact .tup hs hd
  · exact q _ _ _ (Gr.new ex hp) (.tup (st_of upd_same) (dpa_mono (Ex.new (fresh_back ex hp)) (dpa_rep _ hd)))
theorem rd_catA (hl : ds.length + es.length ≤ 100000) : RD K (rCatA K) (.tuple ds) (.tuple es) H (.tuple (ds ++ es)) := fun x y H1 ex hx hy Q q => by
  obtain ⟨a, xs, rfl, hs, hd⟩ := Dp.tup_of hx
  obtain ⟨b, ys, rfl, hs2, hd2⟩ := Dp.tup_of hy
  have e1 := hd.length
  have e2 := hd2.length
  refine ⟨a, b, xs, ys, rfl, rfl, ex_t ex hs, ex_t ex hs2, sz_of (by omega), fun z => ?_, fun _ z => ?_, fun _ _ p hp => ?_⟩
  · subst z
    cases hd
    exact q _ H H1 (.refl ex) hy
  · subst z
    cases hd2
    rw [List.append_nil] at q
    exact q _ H H1 (.refl ex) hx
  · exact q _ _ _ (Gr.new ex hp) (.tup (st_of upd_same) (dpa_mono (Ex.new (fresh_back ex hp)) (hd.append hd2)))
theorem rcd_minL {n : Int} {ns : List Int} : RCD K (rMinL K) [.list ((n :: ns).map .int)] H (.int (ns.foldl min n)) := fun vs H1 x hd Q q => by
  cases hd with
  | cons h h0 =>
    cases h0
    obtain ⟨a, xs, rfl, hs, hds⟩ := Dp.lst_of h
    have e := DpAll.ints (ns := n :: ns) hds
    subst e
    exact ⟨a, n, ns, rfl, ex_l x hs, q _ H H1 (.refl x) (.int _)⟩
theorem rd_inI {i : Int} {ns : List Int} {neg : Bool} : RD K (rIn K neg) (.int i) (rows b (ns.map .int)) H (.bool (if neg then !(ns.any (· == i)) else ns.any (· == i))) := fun x y H1 ex hx hy Q q => by
  obtain ⟨a, xs, rfl, hr, hd⟩ := row_of hy
  have e := hd.ints
  subst e
  rw [hx.int_of]
  refine ⟨a, _, rfl, row_mono ex hr, rfl, by simp [flatV], ?_⟩
  have e2 : inV (.int i) (ns.map V.int) = ns.any (· == i) := by
    unfold inV
    rw [List.any_map]
    rfl
  rw [e2]
  exact q _ H H1 (.refl ex) (.bl _)
theorem dpa_strs : ∀ {vs : List V} {zs : List Str}, DpAll K H vs (zs.map .str) → vs = zs.map V.str
  | _, [], .nil => rfl
  | _, z :: zs, .cons r a => by
    rw [Dp.str_of r, dpa_strs a]
    rfl
theorem rd_inZ {i : Str} {zs : List Str} {neg : Bool} : RD K (rIn K neg) (.str i) (rows b (zs.map .str)) H (.bool (if neg then !(zs.any (· == i)) else zs.any (· == i))) := fun x y H1 ex hx hy Q q => by
  obtain ⟨a, xs, rfl, hr, hd⟩ := row_of hy
  have e := dpa_strs hd
  subst e
  rw [hx.str_of]
  refine ⟨a, _, rfl, row_mono ex hr, rfl, by simp [flatV], ?_⟩
  have e2 : inV (.str i) (zs.map V.str) = zs.any (· == i) := by
    unfold inV
    rw [List.any_map]
    rfl
  rw [e2]
  exact q _ H H1 (.refl ex) (.bl _)
/-- name.extend(a tuple) -/
theorem qd_extA {j : Nat} {l : Addr} {xs : List V} (x : Ex B H) (hl : H l = some (.lst xs)) (h0 : B l = none) (hj : σ[j]? = some (some (.ref l))) (h : EvD K te σ B (.tuple ds)) (hz : xs.length + ds.length ≤ 100000)
    (k : ∀ zs G H2, Gr B H G H2 → G l = none → H2 l = some (.lst xs) → DpAll K G zs ds → tz D σ (upd H2 l (.lst (xs ++ zs)))) : tSeq (tDrop (tBM K "list" (rExtA K) (tVar j) (tCons te tNil))) tz D σ H :=
  ⟨_, hj, .inl ⟨rfl, xs, sq_of hl⟩, h H x _ fun w G H2 g hw => by
    obtain ⟨b, zs, rfl, hs, hd⟩ := Dp.tup_of hw
    have h2 : H2 l = some (.lst xs) := g.h12 _ _ hl
    exact ⟨l, b, xs, zs, rfl, rfl, h2, ex_t g.g2 hs, sz_of (by have := hd.length; omega), k zs G H2 g (g.sep l h0 (by rw [hl]; exact fun z => nomatch z)) h2 hd⟩⟩
/-- while: W m is the word, m a number that falls -/
theorem sd_while (W : Nat → L2.St → Hp → Prop) (m0 : Nat) (h0 : W m0 σ H)
    (hs : ∀ m σ' H', W m σ' H' → ∃ (b : Bool) (G : Hp), Ex G H' ∧ EvT t σ' G b ∧ (b = true → ∀ H1, Ex H' H1 → ∃ N : L2.St → Hp → Prop, (∀ σ2 H2, N σ2 H2 → ∃ m', m' < m ∧ W m' σ2 H2) ∧ tu { D with nx := N, ct := N, bk := D.nx } σ' H1) ∧ (b = false → ∀ H1, Ex H' H1 → D.nx σ' H1)) : tWhile t tu D σ H :=
  ⟨W, ⟨m0, h0⟩, fun m σ' H' hw => by
    obtain ⟨b, G, x, hb, h1, h2⟩ := hs m σ' H' hw
    refine hb H' x _ fun H1 e => ?_
    cases b with
    | true => exact h1 rfl H1 e
    | false => exact h2 rfl H1 e⟩
theorem qd_while (W : Nat → L2.St → Hp → Prop) (m0 : Nat) (h0 : W m0 σ H)
    (hs : ∀ m σ' H', W m σ' H' → ∃ (b : Bool) (G : Hp), Ex G H' ∧ EvT t σ' G b ∧ (b = true → ∀ H1, Ex H' H1 → ∃ N : L2.St → Hp → Prop, (∀ σ2 H2, N σ2 H2 → ∃ m', m' < m ∧ W m' σ2 H2) ∧ tu { D with nx := N, ct := N, bk := tz D } σ' H1) ∧ (b = false → ∀ H1, Ex H' H1 → tz D σ' H1)) : tSeq (tWhile t tu) tz D σ H := sd_while (D := { D with nx := tz D }) W m0 h0 hs
end
end Tb
end

section
set_option Elab.async false
set_option linter.all false
set_option maxRecDepth 100000
set_option maxHeartbeats 400000
/-! Toss base 10: defs that raise; own exceptions with one field. -/
namespace Tb
open PySem PySem.Spec PyProof.Rows L2 Evl

/-- as has_mk, for a def that may raise -/
theorem has_mkX {P : Program} {w : World} {K : PySem.W.Frag} {mg : Str → Option Value} {base : Heap} {x qual : Str} {st : Stmt} {f : Addr} {fd : FuncData} {k : Nat} {N ps : List Str} {sp : Sp}
    (F : FunD K x qual (defArgs st) (defBody st) (defScope st) [] [] f fd) (hm : mg x = some (.ref f)) (S : FnScope N ps (defScope st)) (len : ∀ vs H Q E, sp vs H Q E → vs.length = ps.length)
    (h : ∀ (kV doc pm : Value) (an : Option Addr) (cdv ct : Value) (us : List Value), us.length = ps.length → bindArgs (PySem.W.fnOf x qual (defArgs st) (defBody st) (defScope st) .none kV doc pm an cdv ct) ⟨us, []⟩ = pure (ps.zip us))
    (body : ∀ (cdv : Value) (A : Around) (outer : List Env) (s : Shared) (H : Hp) (vs : List V) (Q : VK) (E : XK), Room k (A.deeper (envOfC qual (defScope st) s.heap.objs.size f cdv)) → sp vs H Q E →
      ∃ t, PSs (cxOf (L2.CX P w) P w K mg base N qual (defScope st) f cdv A outer s H E) (defBody st) t ∧ t { nx := fun _ H' => Q .non H', rt := Q } (start N vs) H) :
    Has P w K mg base (L2.CX P w) x (k + 1) ps [] sp := has_of F hm (F.ok S len body) h
/-- C.__init__(self, x): self.f = x -/
def spInit1 (K : PySem.W.Frag) (f : Str) : Sp := fun vs H Q _ => ∃ (a C : Addr) (y : V), vs = [.ref a, y] ∧ OexC K C ∧ PySem.W.findIn K (.ref C) f = some none ∧ H a = some (exo a C none) ∧ ∀ dx, H dx = none → dx ≠ a → Q .non (upd (upd H dx (exd dx [(f, y)])) a (exo a C (some dx)))
/-- C(e): the exception's dict, new, beside all that stood -/
theorem mk_one {K : PySem.W.Frag} {C : Addr} {f : Str} {σ : L2.St} {B H : Hp} {te : TE} {k : Int} {Q : XK} (T : OexC K C) (hno : PySem.W.findIn K (.ref C) f = some none) (x : Ex B H) (h : EvD K te σ B (.int k))
    (q : ∀ d H', Ex H H' → H d = none → H' d = some (.xd [(f, .int k)]) → Q (.ref C) (some d) H') : tMkO C (spInit1 K f) [] (tCons te tNil) σ H Q := by
  refine h H x _ fun v G H1 g hv => ⟨by show 1 ≤ 1000; decide, fun a ha => ⟨a, C, v, rfl, T, hno, upd_same, fun dx hdx ne => ?_⟩⟩
  have dn : H1 dx = none := by rw [upd_ne ne] at hdx; exact hdx
  refine ⟨rfl, dx, [(f, v)], upd_same, ?_, dn, ?_⟩
  · rw [upd_ne ne, upd_same]
  · rw [hv.int_of]
    refine q dx _ (g.h12.trans fun b o hb => ?_) (fresh_back g.h12 dn) upd_same
    have b1 : b ≠ dx := ne_of_none hb dn
    have b2 : b ≠ a := ne_of_none hb ha
    rw [upd_ne b1, del_ne b2, upd_ne b2, upd_ne b1, upd_ne b2]
    exact hb
end Tb
end

section
set_option Elab.async false
set_option linter.all false
set_option maxRecDepth 100000
set_option maxHeartbeats 1000000
/-! Walks by meaning 1: what a def's slots hold, and how one step leads to the next. -/
namespace Fd
open PySem PySem.Spec PyProof.Rows L2 Evl Tb

/-- what a slot holds: nothing, data, a list of one's own, a list that was handed in to be changed -/
inductive Sl where
  | no
  | d (x : PyData)
  | o (xs : List PyData)
  | p (xs : List PyData)
abbrev En := List Sl
def Sl.own : Sl → Option (List PyData)
  | .o xs => some xs
  | .p xs => some xs
  | _ => none
def Sl.isP : Sl → Bool
  | .p _ => true
  | _ => false
/-- b is the address of a list that the slots own -/
def Ow (σ : L2.St) (e : En) (b : Addr) : Prop := ∃ (i : Nat) (s : Sl) (xs : List PyData), e[i]? = some s ∧ s.own = some xs ∧ σ[i]? = some (some (.ref b))
/-- what holds for a whole run of a def: K, what may be changed, which slots hold what was handed in -/
structure Wo where
  K : PySem.W.Frag
  M : Addr → Prop
  pn : Nat → Option Addr
structure At (W : Wo) (σ : L2.St) (e : En) (B H : Hp) : Prop where
  ex : Ex B H
  nm : ∀ b, H b = none → W.M b
  len : σ.length = e.length
  dat : ∀ (i : Nat) x, e[i]? = some (.d x) → ∃ v, σ[i]? = some (some v) ∧ Dp W.K B v x
  own : ∀ (i : Nat) s xs, e[i]? = some s → s.own = some xs → ∃ p vs, σ[i]? = some (some (.ref p)) ∧ W.M p ∧ B p = none ∧ H p = some (.lst vs) ∧ DpAll W.K B vs xs
  sep : ∀ (i j : Nat) s t (p : Addr) xs ys, e[i]? = some s → s.own = some xs → e[j]? = some t → t.own = some ys → σ[i]? = some (some (.ref p)) → σ[j]? = some (some (.ref p)) → i = j
  pin : ∀ (i : Nat) a, W.pn i = some a → (∃ xs, e[i]? = some (.p xs)) ∧ σ[i]? = some (some (.ref a))
/-- growth where only the addresses of M may change -/
structure Go (M : Addr → Prop) (B H B' H' : Hp) : Prop where
  hg : Ex B B'
  fr : ∀ b o, ¬ M b → H b = some o → H' b = some o
  dm : ∀ b, H' b = none → H b = none
  sp : ∀ b, ¬ M b → B b = none → H b ≠ none → B' b = none
theorem Go.refl (M : Addr → Prop) (B H : Hp) : Go M B H B H := ⟨Ex.refl B, fun _ _ _ h => h, fun _ h => h, fun _ _ h _ => h⟩
theorem Go.trans {M : Addr → Prop} {B H B1 H1 B2 H2 : Hp} (a : Go M B H B1 H1) (b : Go M B1 H1 B2 H2) : Go M B H B2 H2 :=
  ⟨a.hg.trans b.hg, fun x o hx h => b.fr x o hx (a.fr x o hx h), fun x h => a.dm x (b.dm x h), fun x h0 h1 h2 => b.sp x h0 (a.sp x h0 h1 h2) fun z => h2 (a.dm x z)⟩
theorem Go.mono {M N : Addr → Prop} {B H B1 H1 : Hp} (h : ∀ b, M b → N b) (a : Go M B H B1 H1) : Go N B H B1 H1 := ⟨a.hg, fun b o hb => a.fr b o fun z => hb (h b z), a.dm, fun b hb => a.sp b fun z => hb (h b z)⟩
theorem Go.gr {M : Addr → Prop} {B H G H2 : Hp} (g : Gr B H G H2) : Go M B H G H2 := ⟨g.hg, fun b o _ h => g.h12 b o h, fun b h => fresh_back g.h12 h, fun b _ => g.sep b⟩
theorem Go.ex {M : Addr → Prop} {B H B' H2 : Hp} (g : Go (fun _ => False) B H B' H2) : Ex H H2 := fun b o h => g.fr b o (fun z => z) h
/-- one step of an expression: e' is what the slots hold behind it -/
structure Gx (σ : L2.St) (e : En) (B H : Hp) (e' : En) (B' H' : Hp) : Prop where
  go : Go (Ow σ e) B H B' H'
  ow : ∀ b, Ow σ e' b → Ow σ e b
theorem Gx.refl (σ : L2.St) (e : En) (B H : Hp) : Gx σ e B H e B H := ⟨.refl _ _ _, fun _ h => h⟩
theorem Gx.trans {σ : L2.St} {e e1 e2 : En} {B H B1 H1 B2 H2 : Hp} (a : Gx σ e B H e1 B1 H1) (b : Gx σ e1 B1 H1 e2 B2 H2) : Gx σ e B H e2 B2 H2 := ⟨a.go.trans (b.go.mono a.ow), fun x h => a.ow x (b.ow x h)⟩
section
variable {W : Wo} {σ : L2.St} {e e' : En} {B H B' H' : Hp}
theorem At.ow (a : At W σ e B H) {b : Addr} (h : Ow σ e b) : W.M b ∧ H b ≠ none ∧ B b = none := by
  obtain ⟨i, s, xs, h1, h2, h3⟩ := h
  obtain ⟨p, vs, g1, g2, g3, g4, _⟩ := a.own i s xs h1 h2
  rw [h3] at g1
  cases g1
  exact ⟨g2, (by rw [g4]; exact fun z => nomatch z), g3⟩
theorem At.goM (a : At W σ e B H) (g : Gx σ e B H e' B' H') : Go W.M B H B' H' := g.go.mono fun b h => (a.ow h).1
/-- nothing of one's own changes, and what is known grows -/
theorem At.gr (a : At W σ e B H) (g : Gr B H B' H') : At W σ e B' H' where
  ex := g.g2
  nm := fun b h => a.nm b (fresh_back g.h12 h)
  len := a.len
  dat := fun i x h => by
    obtain ⟨v, h1, h2⟩ := a.dat i x h
    exact ⟨v, h1, dp_mono g.hg h2⟩
  own := fun i s xs h1 h2 => by
    obtain ⟨p, vs, g1, g2, g3, g4, g5⟩ := a.own i s xs h1 h2
    exact ⟨p, vs, g1, g2, g.sep p g3 (by rw [g4]; exact fun z => nomatch z), g.h12 _ _ g4, dpa_mono g.hg g5⟩
  sep := a.sep
  pin := a.pin
theorem gx_gr (g : Gr B H B' H') : Gx σ e B H e B' H' := ⟨.gr g, fun _ h => h⟩
end

/-! ### what an expression means -/
abbrev Dn (α : Type) := En → Option (α × En)
def SE (K : PySem.W.Frag) (te : TE) (f : Dn PyData) : Prop := ∀ (W : Wo), W.K = K → ∀ (σ : L2.St) (e : En) (B H : Hp), At W σ e B H → ∀ d e', f e = some (d, e') →
  ∀ Q : VK, (∀ v B' H', At W σ e' B' H' → Gx σ e B H e' B' H' → Dp K B' v d → Q v H') → te σ H Q
/-- a new list -/
def SL (K : PySem.W.Frag) (te : TE) (f : Dn (List PyData)) : Prop := ∀ (W : Wo), W.K = K → ∀ (σ : L2.St) (e : En) (B H : Hp), At W σ e B H → ∀ ds e', f e = some (ds, e') →
  ∀ Q : VK, (∀ p vs B' H', At W σ e' B' H' → Gx σ e B H e' B' H' → H p = none → H' p = some (.lst vs) → B' p = none → DpAll K B' vs ds → Q (.ref p) H') → te σ H Q
def ST (K : PySem.W.Frag) (tt : TT) (f : Dn Bool) : Prop := ∀ (W : Wo), W.K = K → ∀ (σ : L2.St) (e : En) (B H : Hp), At W σ e B H → ∀ b e', f e = some (b, e') →
  ∀ Q : Bool → Hp → Prop, (∀ B' H', At W σ e' B' H' → Gx σ e B H e' B' H' → Q b H') → tt σ H Q
def SA (K : PySem.W.Frag) (ta : TA) (f : Dn (List PyData)) : Prop := ∀ (W : Wo), W.K = K → ∀ (σ : L2.St) (e : En) (B H : Hp), At W σ e B H → ∀ ds e', f e = some (ds, e') →
  ∀ Q : List V → Hp → Prop, (∀ vs B' H', At W σ e' B' H' → Gx σ e B H e' B' H' → DpAll K B' vs ds → Q vs H') → ta σ H Q

/-! ### meanings put together -/
def dK {α : Type} (x : α) : Dn α := fun e => some (x, e)
def dBind {α β : Type} (f : Dn α) (g : α → Dn β) : Dn β := fun e => match f e with
  | some (x, e1) => g x e1
  | none => none
def dLift {α : Type} (o : Option α) : Dn α := fun e => match o with
  | some x => some (x, e)
  | none => none
/-- a slot that is read as data: a list of one's own does not change any more -/
def dVar (i : Nat) : Dn PyData := fun e => match e[i]? with
  | some (.d x) => some (x, e)
  | some (.o xs) => some (.list xs, e.set i (.d (.list xs)))
  | _ => none
def dOp (F : PyData → PyData → Option PyData) (f g : Dn PyData) : Dn PyData := dBind f fun x => dBind g fun y => dLift (F x y)
def dUn (F : PyData → Option PyData) (f : Dn PyData) : Dn PyData := dBind f fun x => dLift (F x)
def dCons (f : Dn PyData) (g : Dn (List PyData)) : Dn (List PyData) := dBind f fun x => dBind g fun xs => dK (x :: xs)
def dIf {α : Type} (c : Dn Bool) (f g : Dn α) : Dn α := dBind c fun b => if b = true then f else g
def dAnd (f g : Dn PyData) : Dn PyData := dBind f fun x => match x with
  | .bool true => dBind g fun y => match y with
    | .bool b => dK (.bool b)
    | _ => fun _ => none
  | .bool false => dK (.bool false)
  | _ => fun _ => none
def dOr (f g : Dn PyData) : Dn PyData := dBind f fun x => match x with
  | .bool false => dBind g fun y => match y with
    | .bool b => dK (.bool b)
    | _ => fun _ => none
  | .bool true => dK (.bool true)
  | _ => fun _ => none
def dNot (f : Dn PyData) : Dn PyData := dBind f fun x => match x with
  | .bool b => dK (.bool (!b))
  | _ => fun _ => none
def dTest (f : Dn PyData) : Dn Bool := dBind f fun x => match x with
  | .bool b => dK b
  | _ => fun _ => none
def dAndT (f g : Dn Bool) : Dn Bool := dBind f fun b => if b = true then g else dK false
def dOrT (f g : Dn Bool) : Dn Bool := dBind f fun b => if b = true then dK true else g
def dNotT (f : Dn Bool) : Dn Bool := dBind f fun b => dK (!b)
def small (ds : List PyData) : Bool := decide (ds.length ≤ 100000)
def dTup (f : Dn (List PyData)) : Dn PyData := dBind f fun ds => if small ds = true then dK (.tuple ds) else fun _ => none
def dLst (f : Dn (List PyData)) : Dn (List PyData) := dBind f fun ds => if small ds = true then dK ds else fun _ => none
def dFz (f : Dn (List PyData)) : Dn PyData := dBind f fun ds => dK (.list ds)
theorem dBind_some {α β : Type} {f : Dn α} {g : α → Dn β} {e : En} {r : β × En} (h : dBind f g e = some r) : ∃ x e1, f e = some (x, e1) ∧ g x e1 = some r := by
  unfold dBind at h
  split at h
  · rename_i x e1 he
    exact ⟨x, e1, he, h⟩
  · cases h
theorem dLift_some {α : Type} {o : Option α} {e : En} {x : α} {e1 : En} (h : dLift o e = some (x, e1)) : o = some x ∧ e1 = e := by
  unfold dLift at h
  split at h
  · cases h
    exact ⟨rfl, rfl⟩
  · cases h
theorem dK_some {α : Type} {x y : α} {e e1 : En} (h : dK x e = some (y, e1)) : x = y ∧ e1 = e := by
  cases h
  exact ⟨rfl, rfl⟩

section
variable {K : PySem.W.Frag} {ta tb te tc : TE} {t u : TT} {f g : Dn PyData} {c c2 : Dn Bool} {r : R2} {F : PyData → PyData → Option PyData}
theorem se_op (hr : ∀ B x y z, F x y = some z → RD K r x y B z) (ha : SE K ta f) (hb : SE K tb g) : SE K (tOp r ta tb) (dOp F f g) := fun W hW σ e B H a d e' h Q q => by
  obtain ⟨x, e1, h1, h⟩ := dBind_some h
  obtain ⟨y, e2, h2, h⟩ := dBind_some h
  obtain ⟨h3, rfl⟩ := dLift_some h
  refine ha W hW σ e B H a x e1 h1 _ fun v1 B1 H1 a1 g1 d1 => hb W hW σ e1 B1 H1 a1 y e' h2 _ fun v2 B2 H2 a2 g2 d2 => ?_
  refine hr B2 x y d h3 v1 v2 H2 a2.ex (dp_mono g2.go.hg d1) d2 Q fun v G H3 g3 hd => q v G H3 (a2.gr g3) ((g1.trans g2).trans (gx_gr g3)) hd
theorem se_un {r : V → Hp → VK → Prop} {F : PyData → Option PyData} (hr : ∀ B x z, F x = some z → RUD K r x B z) (ha : SE K ta f) : SE K (tUn r ta) (dUn F f) := fun W hW σ e B H a d e' h Q q => by
  obtain ⟨x, e1, h1, h⟩ := dBind_some h
  obtain ⟨h3, rfl⟩ := dLift_some h
  refine ha W hW σ e B H a x e' h1 _ fun v1 B1 H1 a1 g1 d1 => ?_
  refine hr B1 x d h3 v1 H1 a1.ex d1 Q fun v G H3 g3 hd => q v G H3 (a1.gr g3) (g1.trans (gx_gr g3)) hd
theorem se_c {v : V} {d : PyData} (h : ∀ B, Dp K B v d) : SE K (tC v) (dK d) := fun W hW σ e B H a d' e' h' Q q => by
  obtain ⟨rfl, rfl⟩ := dK_some h'
  exact q v B H a (.refl _ _ _ _) (h B)
theorem se_int {i : Int} : SE K (tC (.int i)) (dK (.int i)) := se_c fun _ => .int i
theorem se_bl {b : Bool} : SE K (tC (.bl b)) (dK (.bool b)) := se_c fun _ => .bl b
theorem se_str {x : Str} : SE K (tC (.str x)) (dK (.str x)) := se_c fun _ => .str x
theorem se_non : SE K (tC .non) (dK .none) := se_c fun _ => .non
theorem sa_nil : SA K tNil (dK []) := fun W hW σ e B H a d' e' h' Q q => by
  obtain ⟨rfl, rfl⟩ := dK_some h'
  exact q [] B H a (.refl _ _ _ _) .nil
theorem sa_cons {tr : TA} {k : Dn (List PyData)} (ha : SE K ta f) (hr : SA K tr k) : SA K (tCons ta tr) (dCons f k) := fun W hW σ e B H a d e' h Q q => by
  obtain ⟨x, e1, h1, h⟩ := dBind_some h
  obtain ⟨xs, e2, h2, h⟩ := dBind_some h
  obtain ⟨rfl, rfl⟩ := dK_some h
  refine ha W hW σ e B H a x e1 h1 _ fun v1 B1 H1 a1 g1 d1 => hr W hW σ e1 B1 H1 a1 xs e' h2 _ fun vs B2 H2 a2 g2 d2 => ?_
  exact q (v1 :: vs) B2 H2 a2 (g1.trans g2) (.cons (dp_mono g2.go.hg d1) d2)
theorem se_cb {r : List V → Hp → VK → Prop} {tr : TA} {k : Dn (List PyData)} {F : List PyData → Option PyData} (hr : ∀ B ds z, F ds = some z → RCD K r ds B z) (ha : SA K tr k) : SE K (tCB r tr) (dBind k fun ds => dLift (F ds)) := fun W hW σ e B H a d e' h Q q => by
  obtain ⟨x, e1, h1, h⟩ := dBind_some h
  obtain ⟨h3, rfl⟩ := dLift_some h
  refine ha W hW σ e B H a x e' h1 _ fun v1 B1 H1 a1 g1 d1 => ?_
  refine hr B1 x d h3 v1 H1 a1.ex d1 Q fun v G H3 g3 hd => q v G H3 (a1.gr g3) (g1.trans (gx_gr g3)) hd
theorem sl_cb {r : List V → Hp → VK → Prop} {tr : TA} {k : Dn (List PyData)} {F : List PyData → Option (List PyData)} (hr : ∀ B ds z, F ds = some z → RCDL K r ds B z) (ha : SA K tr k) : SL K (tCB r tr) (dBind k fun ds => dLift (F ds)) := fun W hW σ e B H a d e' h Q q => by
  obtain ⟨x, e1, h1, h⟩ := dBind_some h
  obtain ⟨h3, rfl⟩ := dLift_some h
  refine ha W hW σ e B H a x e' h1 _ fun v1 B1 H1 a1 g1 d1 => ?_
  refine hr B1 x d h3 v1 H1 a1.ex d1 Q fun p vs G H3 g0 h0 g3 hp hd => q p vs G H3 (a1.gr g3) (g1.trans (gx_gr g3)) (g1.go.dm p h0) hp g0 hd
/-- a new list becomes data -/
theorem At.fz {W : Wo} {σ : L2.St} {e : En} {B H : Hp} {p : Addr} {vs : List V} (a : At W σ e B H) (hp : H p = some (.lst vs)) (h0 : B p = none) (no : ¬ Ow σ e p) : At W σ e (upd B p (.lst vs)) H where
  ex := fun b o h => by
    by_cases c : b = p
    · subst c
      rw [upd_same] at h
      cases h
      exact hp
    · rw [upd_ne c] at h
      exact a.ex b o h
  nm := a.nm
  len := a.len
  dat := fun i x h => by
    obtain ⟨v, h1, h2⟩ := a.dat i x h
    exact ⟨v, h1, dp_mono (Ex.new h0) h2⟩
  own := fun i s xs h1 h2 => by
    obtain ⟨q, vs, g1, g2, g3, g4, g5⟩ := a.own i s xs h1 h2
    have qp : q ≠ p := fun z => by
      subst z
      exact no ⟨i, s, xs, h1, h2, g1⟩
    exact ⟨q, vs, g1, g2, by rw [upd_ne qp]; exact g3, g4, dpa_mono (Ex.new h0) g5⟩
  sep := a.sep
  pin := a.pin
theorem se_fz {k : Dn (List PyData)} (h : SL K te k) : SE K te (dFz k) := fun W hW σ e B H a d e' h' Q q => by
  obtain ⟨x, e1, h1, h2⟩ := dBind_some h'
  obtain ⟨rfl, rfl⟩ := dK_some h2
  refine h W hW σ e B H a x e' h1 _ fun p vs B1 H1 a1 g1 p0 hp pB hd => ?_
  have no : ¬ Ow σ e' p := fun z => (a.ow (g1.ow p z)).2.1 p0
  refine q _ _ _ (a1.fz hp pB no) ⟨⟨g1.go.hg.trans (Ex.new pB), g1.go.fr, g1.go.dm, fun b hn hb hh => ?_⟩, g1.ow⟩ (.lst (sq_of upd_same) (dpa_mono (Ex.new pB) hd))
  by_cases c : b = p
  · subst c
    exact absurd p0 hh
  · rw [upd_ne c]
    exact g1.go.sp b hn hb hh
end

section
variable {K : PySem.W.Frag} {ta tb te tc : TE} {t u : TT} {f g : Dn PyData} {c c2 : Dn Bool}
theorem getElem?_set_eq {α : Type} {l : List α} {i : Nat} {x y : α} (h : l[i]? = some x) : (l.set i y)[i]? = some y := by
  rw [List.getElem?_set_self (List.getElem?_eq_some_iff.mp h).1]
/-- a list of one's own becomes data where it stands -/
theorem At.fzAt {W : Wo} {σ : L2.St} {e : En} {B H : Hp} {i : Nat} {xs : List PyData} (a : At W σ e B H) (hi : e[i]? = some (.o xs)) : ∃ p vs, σ[i]? = some (some (.ref p)) ∧ H p = some (.lst vs) ∧ B p = none ∧ DpAll W.K B vs xs ∧
    At W σ (e.set i (.d (.list xs))) (upd B p (.lst vs)) H ∧ Gx σ e B H (e.set i (.d (.list xs))) (upd B p (.lst vs)) H := by
  obtain ⟨p, vs, g1, g2, g3, g4, g5⟩ := a.own i _ xs hi rfl
  have hs : ∀ (j : Nat) s, (e.set i (.d (.list xs)))[j]? = some s → (j = i ∧ s = .d (.list xs)) ∨ (j ≠ i ∧ e[j]? = some s) := fun j s h => by
    by_cases c : j = i
    · subst c
      rw [getElem?_set_eq hi] at h
      cases h
      exact .inl ⟨rfl, rfl⟩
    · rw [List.getElem?_set_ne (Ne.symm c)] at h
      exact .inr ⟨c, h⟩
  have oth : ∀ (j : Nat) s ys, (e.set i (.d (.list xs)))[j]? = some s → s.own = some ys → j ≠ i ∧ e[j]? = some s := fun j s ys h1 h2 => by
    rcases hs j s h1 with ⟨_, rfl⟩ | h
    · cases h2
    · exact h
  refine ⟨p, vs, g1, g4, g3, g5, ⟨fun b o h => ?_, a.nm, by rw [List.length_set]; exact a.len, fun j x h => ?_, fun j s ys h1 h2 => ?_, fun j k s t q ys zs h1 h2 h3 h4 h5 h6 => ?_, fun j b hb => ?_⟩, ⟨⟨Ex.new g3, fun _ _ _ h => h, fun _ h => h, fun b hn hb hh => ?_⟩, fun b hb => ?_⟩⟩
  · by_cases c : b = p
    · subst c
      rw [upd_same] at h
      cases h
      exact g4
    · rw [upd_ne c] at h
      exact a.ex b o h
  · rcases hs j _ h with ⟨rfl, e1⟩ | ⟨_, h⟩
    · cases e1
      exact ⟨_, g1, .lst (sq_of upd_same) (dpa_mono (Ex.new g3) g5)⟩
    · obtain ⟨v, k1, k2⟩ := a.dat j x h
      exact ⟨v, k1, dp_mono (Ex.new g3) k2⟩
  · obtain ⟨ne, h1⟩ := oth j s ys h1 h2
    obtain ⟨q, ws, k1, k2, k3, k4, k5⟩ := a.own j s ys h1 h2
    have qp : q ≠ p := fun z => by
      subst z
      exact ne (a.sep j i s _ q ys xs h1 h2 hi rfl k1 g1)
    exact ⟨q, ws, k1, k2, by rw [upd_ne qp]; exact k3, k4, dpa_mono (Ex.new g3) k5⟩
  · exact a.sep j k s t q ys zs (oth j s ys h1 h2).2 h2 (oth k t zs h3 h4).2 h4 h5 h6
  · obtain ⟨⟨ys, h1⟩, h2⟩ := a.pin j b hb
    have ne : j ≠ i := fun z => by
      subst z
      rw [h1] at hi
      cases hi
    exact ⟨⟨ys, by rw [List.getElem?_set_ne (Ne.symm ne)]; exact h1⟩, h2⟩
  · by_cases c : b = p
    · subst c
      exact absurd ⟨i, _, xs, hi, rfl, g1⟩ hn
    · rw [upd_ne c]
      exact hb
  · obtain ⟨j, s, ys, h1, h2, h3⟩ := hb
    exact ⟨j, s, ys, (oth j s ys h1 h2).2, h2, h3⟩
theorem se_var {i : Nat} : SE K (tVar i) (dVar i) := fun W hW σ e B H a d e' h Q q => by
  unfold dVar at h
  split at h
  · rename_i x hx
    cases h
    obtain ⟨v, h1, h2⟩ := a.dat i _ hx
    rw [hW] at h2
    exact ⟨v, h1, q v B H a (.refl _ _ _ _) h2⟩
  · rename_i xs hx
    cases h
    obtain ⟨p, vs, h1, h2, h3, h4, h5, h6⟩ := a.fzAt hx
    rw [hW] at h4
    exact ⟨_, h1, q _ _ H h5 h6 (.lst (sq_of upd_same) (dpa_mono (Ex.new h3) h4))⟩
  · cases h
theorem se_if (hc : ST K t c) (ha : SE K ta f) (hb : SE K tb g) : SE K (tIf t ta tb) (dIf c f g) := fun W hW σ e B H a d e' h Q q => by
  obtain ⟨b, e1, h1, h⟩ := dBind_some h
  refine hc W hW σ e B H a b e1 h1 _ fun B1 H1 a1 g1 => ?_
  by_cases z : b = true
  · rw [if_pos z] at h ⊢
    exact ha W hW σ e1 B1 H1 a1 d e' h Q fun v B2 H2 a2 g2 => q v B2 H2 a2 (g1.trans g2)
  · rw [if_neg z] at h ⊢
    exact hb W hW σ e1 B1 H1 a1 d e' h Q fun v B2 H2 a2 g2 => q v B2 H2 a2 (g1.trans g2)
theorem se_and (ha : SE K ta f) (hb : SE K tb g) : SE K (tAndV ta tb) (dAnd f g) := fun W hW σ e B H a d e' h Q q => by
  obtain ⟨x, e1, h1, h⟩ := dBind_some h
  refine ha W hW σ e B H a x e1 h1 _ fun v1 B1 H1 a1 g1 d1 => ?_
  split at h
  · obtain ⟨y, e2, h2, h⟩ := dBind_some h
    split at h
    · obtain ⟨rfl, rfl⟩ := dK_some h
      exact ⟨true, d1.bl_of, hb W hW σ e1 B1 H1 a1 _ e' h2 Q fun v B2 H2 a2 g2 => q v B2 H2 a2 (g1.trans g2)⟩
    · cases h
  · obtain ⟨rfl, rfl⟩ := dK_some h
    exact ⟨false, d1.bl_of, q _ B1 H1 a1 g1 (.bl false)⟩
  · cases h
theorem se_or (ha : SE K ta f) (hb : SE K tb g) : SE K (tOrV ta tb) (dOr f g) := fun W hW σ e B H a d e' h Q q => by
  obtain ⟨x, e1, h1, h⟩ := dBind_some h
  refine ha W hW σ e B H a x e1 h1 _ fun v1 B1 H1 a1 g1 d1 => ?_
  split at h
  · obtain ⟨y, e2, h2, h⟩ := dBind_some h
    split at h
    · obtain ⟨rfl, rfl⟩ := dK_some h
      exact ⟨false, d1.bl_of, hb W hW σ e1 B1 H1 a1 _ e' h2 Q fun v B2 H2 a2 g2 => q v B2 H2 a2 (g1.trans g2)⟩
    · cases h
  · obtain ⟨rfl, rfl⟩ := dK_some h
    exact ⟨true, d1.bl_of, q _ B1 H1 a1 g1 (.bl true)⟩
  · cases h
theorem se_not (ha : SE K ta f) : SE K (tNotV ta) (dNot f) := fun W hW σ e B H a d e' h Q q => by
  obtain ⟨x, e1, h1, h⟩ := dBind_some h
  refine ha W hW σ e B H a x e1 h1 _ fun v1 B1 H1 a1 g1 d1 => ?_
  split at h
  · rename_i b
    obtain ⟨rfl, rfl⟩ := dK_some h
    exact ⟨b, d1.bl_of, q _ B1 H1 a1 g1 (.bl _)⟩
  · cases h
theorem st_test (ha : SE K ta f) : ST K (tTest ta) (dTest f) := fun W hW σ e B H a d e' h Q q => by
  obtain ⟨x, e1, h1, h⟩ := dBind_some h
  refine ha W hW σ e B H a x e1 h1 _ fun v1 B1 H1 a1 g1 d1 => ?_
  split at h
  · rename_i b
    obtain ⟨rfl, rfl⟩ := dK_some h
    exact ⟨b, d1.bl_of, q B1 H1 a1 g1⟩
  · cases h
theorem st_val (ha : SE K ta f) : ST K (tB ta) (dTest f) := st_test ha
theorem st_and (ha : ST K t c) (hb : ST K u c2) : ST K (tAnd t u) (dAndT c c2) := fun W hW σ e B H a d e' h Q q => by
  obtain ⟨b, e1, h1, h⟩ := dBind_some h
  refine ha W hW σ e B H a b e1 h1 _ fun B1 H1 a1 g1 => ?_
  cases b with
  | true => exact hb W hW σ e1 B1 H1 a1 d e' h Q fun B2 H2 a2 g2 => q B2 H2 a2 (g1.trans g2)
  | false =>
    obtain ⟨rfl, rfl⟩ := dK_some h
    exact q B1 H1 a1 g1
theorem st_or (ha : ST K t c) (hb : ST K u c2) : ST K (tOr t u) (dOrT c c2) := fun W hW σ e B H a d e' h Q q => by
  obtain ⟨b, e1, h1, h⟩ := dBind_some h
  refine ha W hW σ e B H a b e1 h1 _ fun B1 H1 a1 g1 => ?_
  cases b with
  | false => exact hb W hW σ e1 B1 H1 a1 d e' h Q fun B2 H2 a2 g2 => q B2 H2 a2 (g1.trans g2)
  | true =>
    obtain ⟨rfl, rfl⟩ := dK_some h
    exact q B1 H1 a1 g1
theorem st_not (ha : ST K t c) : ST K (tNot t) (dNotT c) := fun W hW σ e B H a d e' h Q q => by
  obtain ⟨b, e1, h1, h⟩ := dBind_some h
  obtain ⟨rfl, rfl⟩ := dK_some h
  exact ha W hW σ e B H a b e' h1 _ fun B1 H1 a1 g1 => q B1 H1 a1 g1
theorem st_yes : ST K tYes (dK true) := fun W hW σ e B H a d e' h Q q => by
  obtain ⟨rfl, rfl⟩ := dK_some h
  exact q B H a (.refl _ _ _ _)
theorem se_tup {tr : TA} {k : Dn (List PyData)} (h : SA K tr k) : SE K (tTup tr) (dTup k) := fun W hW σ e B H a d e' h' Q q => by
  obtain ⟨ds, e1, h1, h2⟩ := dBind_some h'
  split at h2
  · rename_i hz
    obtain ⟨rfl, rfl⟩ := dK_some h2
    refine h W hW σ e B H a ds e' h1 _ fun vs B1 H1 a1 g1 d1 => ⟨sz_of (by rw [DpAll.length d1]; exact of_decide_eq_true hz), fun p hp => ?_⟩
    have g : Gr B1 H1 (upd B1 p (.tup vs)) (upd H1 p (.tup vs)) := Gr.new a1.ex hp
    exact q _ _ _ (a1.gr g) (g1.trans (gx_gr g)) (.tup (st_of upd_same) (dpa_mono g.hg d1))
  · cases h2
theorem sl_lst {tr : TA} {k : Dn (List PyData)} (h : SA K tr k) : SL K (tLst tr) (dLst k) := fun W hW σ e B H a d e' h' Q q => by
  obtain ⟨ds, e1, h1, h2⟩ := dBind_some h'
  split at h2
  · rename_i hz
    obtain ⟨rfl, rfl⟩ := dK_some h2
    refine h W hW σ e B H a ds e' h1 _ fun vs B1 H1 a1 g1 d1 => ⟨sz_of (by rw [DpAll.length d1]; exact of_decide_eq_true hz), fun p hp => ?_⟩
    have g : Gr B1 H1 B1 (upd H1 p (.lst vs)) := Gr.mut a1.ex hp
    exact q p vs _ _ (a1.gr g) (g1.trans (gx_gr g)) (g1.go.dm p hp) upd_same (fresh_back a1.ex hp) d1
  · cases h2
end
end Fd
end

section
set_option Elab.async false
set_option linter.all false
set_option maxRecDepth 100000
set_option maxHeartbeats 1000000
/-! Walks by meaning 2: statements and loops. -/
namespace Fd
open PySem PySem.Spec PyProof.Rows L2 Evl Tb

/-- how a statement ends -/
inductive Rs where
  | nx (e : En)
  | bk (e : En)
  | ct (e : En)
  | rt (d : PyData) (e : En)
  | rl (xs : List PyData) (e : En)
abbrev Ds := En → Option Rs
def Po (W : Wo) (B H : Hp) (D : Ends) : Rs → Prop
  | .nx e' => ∀ σ' B' H', At W σ' e' B' H' → Go W.M B H B' H' → D.nx σ' H'
  | .bk e' => ∀ σ' B' H', At W σ' e' B' H' → Go W.M B H B' H' → D.bk σ' H'
  | .ct e' => ∀ σ' B' H', At W σ' e' B' H' → Go W.M B H B' H' → D.ct σ' H'
  | .rt d e' => ∀ v σ' B' H', At W σ' e' B' H' → Go W.M B H B' H' → Dp W.K B' v d → D.rt v H'
  | .rl xs e' => ∀ p vs σ' B' H', At W σ' e' B' H' → Go W.M B H B' H' → W.M p → (∀ i, W.pn i ≠ some p) → H' p = some (.lst vs) → B' p = none → DpAll W.K B' vs xs → D.rt (.ref p) H'
def SS (K : PySem.W.Frag) (t : TS) (f : Ds) : Prop := ∀ (W : Wo), W.K = K → ∀ (σ : L2.St) (e : En) (B H : Hp), At W σ e B H → ∀ r, f e = some r → ∀ D : Ends, Po W B H D r → t D σ H
theorem Po.mono {W : Wo} {B H B1 H1 : Hp} {D : Ends} {r : Rs} (g : Go W.M B H B1 H1) (h : Po W B H D r) : Po W B1 H1 D r := by
  cases r with
  | nx e => exact fun σ' B' H' a g' => h σ' B' H' a (g.trans g')
  | bk e => exact fun σ' B' H' a g' => h σ' B' H' a (g.trans g')
  | ct e => exact fun σ' B' H' a g' => h σ' B' H' a (g.trans g')
  | rt d e => exact fun v σ' B' H' a g' => h v σ' B' H' a (g.trans g')
  | rl xs e => exact fun p vs σ' B' H' a g' => h p vs σ' B' H' a (g.trans g')

/-! ### slots that are set -/
section
variable {W : Wo} {σ : L2.St} {e : En} {B H : Hp}
theorem set_cases {e : En} {i j : Nat} {s u : Sl} (h : (e.set i u)[j]? = some s) : (j = i ∧ s = u ∧ i < e.length) ∨ (j ≠ i ∧ e[j]? = some s) := by
  by_cases c : j = i
  · subst c
    have hl : j < e.length := by
      have := (List.getElem?_eq_some_iff.mp h).1
      rw [List.length_set] at this
      exact this
    rw [List.getElem?_set_self hl] at h
    cases h
    exact .inl ⟨rfl, rfl, hl⟩
  · rw [List.getElem?_set_ne (Ne.symm c)] at h
    exact .inr ⟨c, h⟩
theorem At.lt (a : At W σ e B H) {i : Nat} (h : i < e.length) : i < σ.length := by rw [a.len]; exact h
theorem At.setD (a : At W σ e B H) {i : Nat} {v : V} {x : PyData} (hp : W.pn i = none) (hv : Dp W.K B v x) : At W (σ.set i (some v)) (e.set i (.d x)) B H where
  ex := a.ex
  nm := a.nm
  len := by rw [List.length_set, List.length_set]; exact a.len
  dat := fun j y h => by
    rcases set_cases h with ⟨rfl, e1, hl⟩ | ⟨c, h⟩
    · cases e1
      exact ⟨v, List.getElem?_set_self (a.lt hl), hv⟩
    · rw [List.getElem?_set_ne (Ne.symm c)]
      exact a.dat j y h
  own := fun j s xs h1 h2 => by
    rcases set_cases h1 with ⟨rfl, rfl, hl⟩ | ⟨c, h⟩
    · cases h2
    · rw [List.getElem?_set_ne (Ne.symm c)]
      exact a.own j s xs h h2
  sep := fun j k s t p xs ys h1 h2 h3 h4 h5 h6 => by
    rcases set_cases h1 with ⟨rfl, rfl, hl⟩ | ⟨c, h1⟩
    · cases h2
    · rcases set_cases h3 with ⟨rfl, rfl, hl⟩ | ⟨c2, h3⟩
      · cases h4
      · rw [List.getElem?_set_ne (Ne.symm c)] at h5
        rw [List.getElem?_set_ne (Ne.symm c2)] at h6
        exact a.sep j k s t p xs ys h1 h2 h3 h4 h5 h6
  pin := fun j b hb => by
    have ne : i ≠ j := fun z => by
      subst z
      rw [hp] at hb
      cases hb
    rw [List.getElem?_set_ne ne, List.getElem?_set_ne ne]
    exact a.pin j b hb
theorem ow_setD {i : Nat} {v : V} {x : PyData} {b : Addr} (h : Ow (σ.set i (some v)) (e.set i (.d x)) b) : Ow σ e b := by
  obtain ⟨j, s, xs, h1, h2, h3⟩ := h
  rcases set_cases h1 with ⟨rfl, rfl, hl⟩ | ⟨c, h⟩
  · cases h2
  · rw [List.getElem?_set_ne (Ne.symm c)] at h3
    exact ⟨j, s, xs, h, h2, h3⟩
theorem At.setO (a : At W σ e B H) {i : Nat} {p : Addr} {vs : List V} {xs : List PyData} (hp : W.pn i = none) (no : ¬ Ow σ e p) (hM : W.M p) (h0 : B p = none) (hl : H p = some (.lst vs)) (hv : DpAll W.K B vs xs) : At W (σ.set i (some (.ref p))) (e.set i (.o xs)) B H where
  ex := a.ex
  nm := a.nm
  len := by rw [List.length_set, List.length_set]; exact a.len
  dat := fun j y h => by
    rcases set_cases h with ⟨rfl, e1, hl⟩ | ⟨c, h⟩
    · cases e1
    · rw [List.getElem?_set_ne (Ne.symm c)]
      exact a.dat j y h
  own := fun j s ys h1 h2 => by
    rcases set_cases h1 with ⟨rfl, rfl, hlt⟩ | ⟨c, h⟩
    · cases h2
      exact ⟨p, vs, List.getElem?_set_self (a.lt hlt), hM, h0, hl, hv⟩
    · rw [List.getElem?_set_ne (Ne.symm c)]
      exact a.own j s ys h h2
  sep := fun j k s t q xs ys h1 h2 h3 h4 h5 h6 => by
    rcases set_cases h1 with ⟨e1, e2, hl⟩ | ⟨c, h1'⟩
    · rcases set_cases h3 with ⟨e3, e4, hl2⟩ | ⟨c2, h3'⟩
      · rw [e1, e3]
      · subst e1
        rw [List.getElem?_set_self (a.lt hl)] at h5
        rw [List.getElem?_set_ne (Ne.symm c2)] at h6
        cases h5
        exact absurd ⟨k, t, ys, h3', h4, h6⟩ no
    · rcases set_cases h3 with ⟨e3, e4, hl2⟩ | ⟨c2, h3'⟩
      · rw [e3, List.getElem?_set_self (a.lt hl2)] at h6
        rw [List.getElem?_set_ne (Ne.symm c)] at h5
        cases h6
        exact absurd ⟨j, s, xs, h1', h2, h5⟩ no
      · rw [List.getElem?_set_ne (Ne.symm c)] at h5
        rw [List.getElem?_set_ne (Ne.symm c2)] at h6
        exact a.sep j k s t q xs ys h1' h2 h3' h4 h5 h6
  pin := fun j b hb => by
    have ne : i ≠ j := fun z => by
      subst z
      rw [hp] at hb
      cases hb
    rw [List.getElem?_set_ne ne, List.getElem?_set_ne ne]
    exact a.pin j b hb
/-- the list at a slot gets other content -/
theorem At.put (a : At W σ e B H) {i : Nat} {s s' : Sl} {xs ys : List PyData} {p : Addr} {vs : List V} (hi : e[i]? = some s) (hs : s.own = some xs) (hs' : s'.own = some ys) (hP : s.isP = s'.isP) (hp : σ[i]? = some (some (.ref p))) (hv : DpAll W.K B vs ys) :
    At W σ (e.set i s') B (upd H p (.lst vs)) ∧ Go W.M B H B (upd H p (.lst vs)) := by
  obtain ⟨q, us, g1, g2, g3, g4, g5⟩ := a.own i s xs hi hs
  rw [hp] at g1
  cases g1
  refine ⟨⟨Ex.mut a.ex g3, fun b hb => ?_, by rw [List.length_set]; exact a.len, fun j y h => ?_, fun j t zs h1 h2 => ?_, fun j k t u q zs ws h1 h2 h3 h4 h5 h6 => ?_, fun j b hb => ?_⟩, ⟨Ex.refl B, fun b o hM h => ?_, fun b h => ?_, fun b _ h _ => h⟩⟩
  · by_cases c : b = p
    · subst c
      rw [upd_same] at hb
      cases hb
    · rw [upd_ne c] at hb
      exact a.nm b hb
  · rcases set_cases h with ⟨rfl, e1, hl⟩ | ⟨c, h⟩
    · subst e1
      cases hs'
    · exact a.dat j y h
  · rcases set_cases h1 with ⟨rfl, rfl, hlt⟩ | ⟨c, h⟩
    · rw [hs'] at h2
      cases h2
      exact ⟨p, vs, hp, g2, g3, upd_same, hv⟩
    · obtain ⟨q, us', k1, k2, k3, k4, k5⟩ := a.own j t zs h h2
      have qp : q ≠ p := fun z => by
        subst z
        exact c (a.sep j i t s q zs xs h h2 hi hs k1 hp)
      exact ⟨q, us', k1, k2, k3, by rw [upd_ne qp]; exact k4, k5⟩
  · have old : ∀ (j : Nat) (t : Sl) zs, (e.set i s')[j]? = some t → t.own = some zs → ∃ t' zs', e[j]? = some t' ∧ t'.own = some zs' := fun j t zs h1 h2 => by
      rcases set_cases h1 with ⟨rfl, rfl, hlt⟩ | ⟨c, h⟩
      · exact ⟨s, xs, hi, hs⟩
      · exact ⟨t, zs, h, h2⟩
    obtain ⟨t1, z1, m1, m2⟩ := old j t zs h1 h2
    obtain ⟨t2, z2, m3, m4⟩ := old k u ws h3 h4
    exact a.sep j k t1 t2 q z1 z2 m1 m2 m3 m4 h5 h6
  · obtain ⟨⟨zs, k1⟩, k2⟩ := a.pin j b hb
    refine ⟨?_, k2⟩
    by_cases c : j = i
    · subst c
      rw [k1] at hi
      cases hi
      cases s' with
      | p ws => exact ⟨ws, getElem?_set_eq k1⟩
      | no => cases hP
      | d x => cases hP
      | o x => cases hP
    · exact ⟨zs, by rw [List.getElem?_set_ne (Ne.symm c)]; exact k1⟩
  · have c : b ≠ p := fun z => hM (z ▸ g2)
    rw [upd_ne c]
    exact h
  · by_cases c : b = p
    · subst c
      rw [upd_same] at h
      cases h
    · rw [upd_ne c] at h
      exact h
end

/-! ### targets -/
def SG (K : PySem.W.Frag) (g : TG) (sl : List Nat) (f : PyData → En → Option En) : Prop := ∀ (W : Wo), W.K = K → ∀ (σ : L2.St) (e : En) (B H : Hp) (v : V) (d : PyData), At W σ e B H → Dp K B v d → ∀ e', f d e = some e' →
  ∀ Q : L2.St → Hp → Prop, (∀ σ', At W σ' e' B H → (∀ b, Ow σ' e' b → Ow σ e b) → (∀ i, i ∉ sl → σ'[i]? = σ[i]?) → σ'.length = σ.length → Q σ' H) → g v σ H Q
def SGs (K : PySem.W.Frag) (g : TGs) (sl : List Nat) (f : List PyData → En → Option En) : Prop := ∀ (W : Wo), W.K = K → ∀ (σ : L2.St) (e : En) (B H : Hp) (vs : List V) (ds : List PyData), At W σ e B H → DpAll K B vs ds → ∀ e', f ds e = some e' →
  ∀ Q : L2.St → Hp → Prop, (∀ σ', At W σ' e' B H → (∀ b, Ow σ' e' b → Ow σ e b) → (∀ i, i ∉ sl → σ'[i]? = σ[i]?) → σ'.length = σ.length → Q σ' H) → g vs σ H Q
def canSet (e : En) (i : Nat) : Bool := match e[i]? with
  | some (.p _) => false
  | none => false
  | _ => true
def setD (i : Nat) (d : PyData) (e : En) : Option En := if canSet e i = true then some (e.set i (.d d)) else none
def setO (i : Nat) (xs : List PyData) (e : En) : Option En := if canSet e i = true then some (e.set i (.o xs)) else none
theorem can_pn {W : Wo} {σ : L2.St} {e : En} {B H : Hp} {i : Nat} (a : At W σ e B H) (h : canSet e i = true) : W.pn i = none := by
  cases hp : W.pn i with
  | none => rfl
  | some b =>
    obtain ⟨⟨xs, k⟩, _⟩ := a.pin i b hp
    unfold canSet at h
    rw [k] at h
    cases h
def dName (i : Nat) : PyData → En → Option En := setD i
def dNil : List PyData → En → Option En := fun ds e => match ds with
  | [] => some e
  | _ => none
def dGs (f : PyData → En → Option En) (g : List PyData → En → Option En) : List PyData → En → Option En := fun ds e => match ds with
  | d :: ds => match f d e with
    | some e1 => g ds e1
    | none => none
  | [] => none
def itemsOf : PyData → Option (List PyData)
  | .list xs => some xs
  | .tuple xs => some xs
  | _ => none
def dRow (n : Nat) (g : List PyData → En → Option En) : PyData → En → Option En := fun d e => match itemsOf d with
  | some xs => if xs.length = n then g xs e else none
  | none => none
theorem items_rows {d : PyData} {xs : List PyData} (h : itemsOf d = some xs) : ∃ b, d = rows b xs := by
  cases d with
  | list ys =>
    cases h
    exact ⟨true, rfl⟩
  | tuple ys =>
    cases h
    exact ⟨false, rfl⟩
  | none => cases h
  | bool b => cases h
  | int i => cases h
  | str x => cases h
  | dict x => cases h
section
variable {K : PySem.W.Frag}
theorem sg_name {i : Nat} : SG K (gName i) [i] (dName i) := fun W hW σ e B H v d a hd e' h Q q => by
  unfold dName setD at h
  split at h
  · rename_i c
    cases h
    refine q _ (a.setD (can_pn a c) (hW ▸ hd)) (fun b => ow_setD) (fun j hj => ?_) (List.length_set ..)
    have ne : i ≠ j := fun z => hj (by rw [z]; exact List.mem_singleton.mpr rfl)
    rw [List.getElem?_set_ne ne]
  · cases h
theorem sgs_nil : SGs K gNil [] dNil := fun W hW σ e B H vs ds a hd e' h Q q => by
  cases hd with
  | nil =>
    cases h
    exact ⟨rfl, q σ a (fun _ h => h) (fun _ _ => rfl) rfl⟩
  | cons => cases h
theorem sgs_cons {g : TG} {gs : TGs} {sl sls : List Nat} {f : PyData → En → Option En} {fs : List PyData → En → Option En} (h1 : SG K g sl f) (h2 : SGs K gs sls fs) : SGs K (gCons g gs) (sl ++ sls) (dGs f fs) := fun W hW σ e B H vs ds a hd e' h Q q => by
  cases hd with
  | nil => cases h
  | cons hv ha =>
    unfold dGs at h
    simp only at h
    split at h
    · rename_i e1 he1
      refine ⟨_, _, rfl, h1 W hW σ e B H _ _ a hv e1 he1 _ fun σ1 a1 o1 w1 l1 => h2 W hW σ1 e1 B H _ _ a1 ha e' h _ fun σ2 a2 o2 w2 l2 => q σ2 a2 (fun b hb => o1 b (o2 b hb)) (fun i hi => ?_) (l2.trans l1)⟩
      rw [w2 i fun z => hi (List.mem_append_right _ z), w1 i fun z => hi (List.mem_append_left _ z)]
    · cases h
theorem sg_row {n : Nat} {gs : TGs} {sl : List Nat} {fs : List PyData → En → Option En} (h1 : SGs K gs sl fs) : SG K (gRow K n gs) sl (dRow n fs) := fun W hW σ e B H v d a hd e' h Q q => by
  unfold dRow at h
  split at h
  · rename_i xs hx
    split at h
    · rename_i hn
      obtain ⟨b, rfl⟩ := items_rows hx
      obtain ⟨p, us, rfl, hr, ha⟩ := row_of hd
      exact ⟨p, us, rfl, row_mono a.ex hr, by rw [DpAll.length ha]; exact hn, h1 W hW σ e B H _ _ a ha e' h Q q⟩
    · cases h
  · cases h

/-! ### statements -/
def sAsg (f : Dn PyData) (g : PyData → En → Option En) : Ds := fun e => match f e with
  | some (d, e1) => (g d e1).map .nx
  | none => none
def sAsgO (f : Dn (List PyData)) (i : Nat) : Ds := fun e => match f e with
  | some (xs, e1) => (setO i xs e1).map .nx
  | none => none
def sDrop (f : Dn PyData) : Ds := fun e => (f e).map fun r => .nx r.2
def sSeq (f g : Ds) : Ds := fun e => match f e with
  | some (.nx e1) => g e1
  | r => r
def sIf (c : Dn Bool) (f g : Ds) : Ds := fun e => match c e with
  | some (b, e1) => if b = true then f e1 else g e1
  | none => none
def sRet (f : Dn PyData) : Ds := fun e => (f e).map fun r => .rt r.1 r.2
def sRetL (f : Dn (List PyData)) : Ds := fun e => (f e).map fun r => .rl r.1 r.2
def sNever : Ds := fun _ => none
def sSets : List Nat → List PyData → En → Option En
  | [], [], e => some e
  | i :: is, d :: ds, e => match setD i d e with
    | some e1 => sSets is ds e1
    | none => none
  | _, _, _ => none
def sPar (f : Dn (List PyData)) (is : List Nat) : Ds := fun e => match f e with
  | some (ds, e1) => (sSets is ds e1).map .nx
  | none => none
variable {te : TE} {ta : TA} {t u : TS} {tc : TT} {f : Dn PyData} {c : Dn Bool} {F G : Ds}
theorem ss_asg {g : TG} {sl : List Nat} {gd : PyData → En → Option En} (h : SE K te f) (hg : SG K g sl gd) : SS K (tAsg te g) (sAsg f gd) := fun W hW σ e B H a r hr D q => by
  unfold sAsg at hr
  split at hr
  · rename_i d e1 h1
    obtain ⟨e2, h2, rfl⟩ := Option.map_eq_some_iff.mp hr
    refine h W hW σ e B H a d e1 h1 _ fun v B1 H1 a1 g1 d1 => hg W hW σ e1 B1 H1 v d a1 d1 e2 h2 _ fun σ2 a2 o2 _ _ => q σ2 B1 H1 a2 (a.goM g1)
  · cases hr
theorem ss_asgO {i : Nat} {fl : Dn (List PyData)} (h : SL K te fl) : SS K (tAsg te (gName i)) (sAsgO fl i) := fun W hW σ e B H a r hr D q => by
  unfold sAsgO at hr
  split at hr
  · rename_i xs e1 h1
    obtain ⟨e2, h2, rfl⟩ := Option.map_eq_some_iff.mp hr
    unfold setO at h2
    split at h2
    · rename_i hc
      cases h2
      refine h W hW σ e B H a xs e1 h1 _ fun p vs B1 H1 a1 g1 p0 hp pB hd => q _ B1 H1 (a1.setO (can_pn a1 hc) (fun z => (a.ow (g1.ow p z)).2.1 p0) (a.nm p p0) pB hp (hW ▸ hd)) (a.goM g1)
    · cases h2
  · cases hr
theorem ss_drop (h : SE K te f) : SS K (tDrop te) (sDrop f) := fun W hW σ e B H a r hr D q => by
  obtain ⟨⟨d, e1⟩, h1, rfl⟩ := Option.map_eq_some_iff.mp hr
  exact h W hW σ e B H a d e1 h1 _ fun v B1 H1 a1 g1 d1 => q σ B1 H1 a1 (a.goM g1)
theorem ss_seq (h1 : SS K t F) (h2 : SS K u G) : SS K (tSeq t u) (sSeq F G) := fun W hW σ e B H a r hr D q => by
  unfold sSeq at hr
  split at hr
  · rename_i e1 he
    refine h1 W hW σ e B H a _ he _ fun σ' B' H' a' g' => h2 W hW σ' e1 B' H' a' r hr D (q.mono g')
  · rename_i r' hne
    refine h1 W hW σ e B H a r hr _ ?_
    cases r with
    | nx e1 => exact absurd hr (hne e1)
    | bk e1 => exact q
    | ct e1 => exact q
    | rt d e1 => exact q
    | rl xs e1 => exact q
theorem ss_if (hc : ST K tc c) (h1 : SS K t F) (h2 : SS K u G) : SS K (tIfS tc t u) (sIf c F G) := fun W hW σ e B H a r hr D q => by
  unfold sIf at hr
  split at hr
  · rename_i b e1 he
    refine hc W hW σ e B H a b e1 he _ fun B1 H1 a1 g1 => ?_
    have q1 := q.mono (a.goM g1)
    by_cases z : b = true
    · rw [if_pos z] at hr ⊢
      exact h1 W hW σ e1 B1 H1 a1 r hr D q1
    · rw [if_neg z] at hr ⊢
      exact h2 W hW σ e1 B1 H1 a1 r hr D q1
  · cases hr
theorem ss_ret (h : SE K te f) : SS K (tRet te) (sRet f) := fun W hW σ e B H a r hr D q => by
  obtain ⟨⟨d, e1⟩, h1, rfl⟩ := Option.map_eq_some_iff.mp hr
  exact h W hW σ e B H a d e1 h1 _ fun v B1 H1 a1 g1 d1 => q v σ B1 H1 a1 (a.goM g1) (hW ▸ d1)
theorem ss_retN : SS K tRetN (fun e => some (.rt .none e)) := fun W hW σ e B H a r hr D q => by
  cases hr
  exact q .non σ B H a (.refl _ _ _) .non
theorem ss_retL {fl : Dn (List PyData)} (h : SL K te fl) : SS K (tRet te) (sRetL fl) := fun W hW σ e B H a r hr D q => by
  obtain ⟨⟨xs, e1⟩, h1, rfl⟩ := Option.map_eq_some_iff.mp hr
  refine h W hW σ e B H a xs e1 h1 _ fun p vs B1 H1 a1 g1 p0 hp pB hd => q p vs σ B1 H1 a1 (a.goM g1) (a.nm p p0) (fun i z => ?_) hp pB (hW ▸ hd)
  obtain ⟨⟨ys, k1⟩, k2⟩ := a.pin i p z
  obtain ⟨p', us, g1', _, _, g4, _⟩ := a.own i _ ys k1 rfl
  rw [k2] at g1'
  cases g1'
  rw [p0] at g4
  cases g4
theorem ss_next : SS K tNext (fun e => some (.nx e)) := fun W hW σ e B H a r hr D q => by
  cases hr
  exact q σ B H a (.refl _ _ _)
theorem ss_break : SS K tBreak (fun e => some (.bk e)) := fun W hW σ e B H a r hr D q => by
  cases hr
  exact q σ B H a (.refl _ _ _)
theorem ss_cont : SS K tCont (fun e => some (.ct e)) := fun W hW σ e B H a r hr D q => by
  cases hr
  exact q σ B H a (.refl _ _ _)
theorem ss_never : SS K tNever sNever := fun W hW σ e B H a r hr D q => by cases hr
/-- own name returned -/
def sRetO (i : Nat) : Ds := fun e => match e[i]? with
  | some (.o xs) => some (.rl xs e)
  | _ => none
theorem ss_retO {i : Nat} : SS K (tRet (tVar i)) (sRetO i) := fun W hW σ e B H a r hr D q => by
  unfold sRetO at hr
  split at hr
  · rename_i xs hx
    cases hr
    obtain ⟨p, vs, g1, g2, g3, g4, g5⟩ := a.own i _ xs hx rfl
    refine ⟨_, g1, q p vs σ B H a (.refl _ _ _) g2 (fun j z => ?_) g4 g3 g5⟩
    obtain ⟨⟨ys, k1⟩, k2⟩ := a.pin j p z
    have ji := a.sep j i _ _ p ys xs k1 rfl hx rfl k2 g1
    subst ji
    rw [k1] at hx
    cases hx
  · cases hr
theorem sets_ok {W : Wo} : ∀ (is : List Nat) (vs : List V) (ds : List PyData) (σ : L2.St) (e e' : En) (B H : Hp), At W σ e B H → DpAll W.K B vs ds → sSets is ds e = some e' → ∃ σ', σ' = (is.zip vs).foldl (fun s p => s.set p.1 (some p.2)) σ ∧ At W σ' e' B H
  | [], [], [], σ, e, e', B, H, a, _, h => by
    cases h
    exact ⟨σ, rfl, a⟩
  | i :: is, v :: vs, d :: ds, σ, e, e', B, H, a, hd, h => by
    unfold sSets at h
    split at h
    · rename_i e1 h1
      unfold setD at h1
      split at h1
      · rename_i c
        cases h1
        cases hd with
        | cons hv ha =>
          obtain ⟨σ', h2, h3⟩ := sets_ok is vs ds _ _ e' B H (a.setD (can_pn a c) hv) ha h
          exact ⟨σ', h2, h3⟩
      · cases h1
    · cases h
  | [], _, _ :: _, σ, e, e', B, H, a, hd, h => by cases h
  | _ :: _, _, [], σ, e, e', B, H, a, hd, h => by cases h
  | [], _ :: _, [], σ, e, e', B, H, a, hd, h => by cases hd
  | _ :: _, [], _ :: _, σ, e, e', B, H, a, hd, h => by cases hd
theorem ss_par {i j : Nat} {fl : Dn (List PyData)} (h : SA K ta fl) : SS K (tPar i j ta) (sPar fl [i, j]) := fun W hW σ e B H a r hr D q => by
  unfold sPar at hr
  split at hr
  · rename_i ds e1 h1
    obtain ⟨e2, h2, rfl⟩ := Option.map_eq_some_iff.mp hr
    refine h W hW σ e B H a ds e1 h1 _ fun vs B1 H1 a1 g1 d1 => ?_
    obtain ⟨_, rfl, k2⟩ := sets_ok [i, j] vs ds σ e1 e2 B1 H1 a1 (hW ▸ d1) h2
    match vs, ds, d1, h2 with
    | [v, w], [d1', d2'], _, _ => exact ⟨v, w, rfl, q _ B1 H1 k2 (a.goM g1)⟩
    | [], [], _, h2 => cases h2
    | [v], [d], _, h2 =>
      unfold sSets at h2
      split at h2 <;> cases h2
    | _ :: _ :: _ :: _, _ :: _ :: _ :: _, _, h2 =>
      unfold sSets at h2
      split at h2
      · unfold sSets at h2
        split at h2 <;> cases h2
      · cases h2
  · cases hr
theorem ss_par3 {i j l : Nat} {fl : Dn (List PyData)} (h : SA K ta fl) : SS K (tPar3 i j l ta) (sPar fl [i, j, l]) := fun W hW σ e B H a r hr D q => by
  unfold sPar at hr
  split at hr
  · rename_i ds e1 h1
    obtain ⟨e2, h2, rfl⟩ := Option.map_eq_some_iff.mp hr
    refine h W hW σ e B H a ds e1 h1 _ fun vs B1 H1 a1 g1 d1 => ?_
    obtain ⟨_, rfl, k2⟩ := sets_ok [i, j, l] vs ds σ e1 e2 B1 H1 a1 (hW ▸ d1) h2
    have hl : vs.length = 3 := by
      rw [DpAll.length d1]
      clear k2 d1 h1
      match ds, h2 with
      | [_, _, _], _ => rfl
      | [], h2 => cases h2
      | [_], h2 =>
        unfold sSets at h2
        split at h2 <;> cases h2
      | [_, _], h2 =>
        unfold sSets at h2
        split at h2
        · unfold sSets at h2
          split at h2 <;> cases h2
        · cases h2
      | _ :: _ :: _ :: _ :: _, h2 =>
        unfold sSets at h2
        split at h2
        · unfold sSets at h2
          split at h2
          · unfold sSets at h2
            split at h2 <;> cases h2
          · cases h2
        · cases h2
    match vs, hl with
    | [v, w, z], _ => exact ⟨v, w, z, rfl, q _ B1 H1 k2 (a.goM g1)⟩
  · cases hr
end
end Fd
end

section
set_option Elab.async false
set_option linter.all false
set_option maxRecDepth 100000
set_option maxHeartbeats 1000000
/-! Walks by meaning 3: what is walked, loops, comprehensions, defs and calls. -/
namespace Fd
open PySem PySem.Spec PyProof.Rows L2 Evl Tb

/-! ### what is walked -/
structure Wk (K : PySem.W.Frag) (J : It) (B0 : Hp) (ds : List PyData) : Prop where
  go : ∀ (i : Nat) B1 H1, Ex B0 B1 → Ex B1 H1 → i < ds.length → J.go i H1
  st : ∀ B1 H1, Ex B0 B1 → Ex B1 H1 → J.stop ds.length H1
  yl : ∀ (i : Nat) d B1 H1 x H2, Ex B0 B1 → Ex B1 H1 → ds[i]? = some d → J.yld i H1 x H2 → ∃ B2, Gr B1 H1 B2 H2 ∧ Dp K B2 x d
def SI (K : PySem.W.Frag) (wi : TI) (f : Dn (List PyData)) : Prop := ∀ (W : Wo), W.K = K → ∀ (σ : L2.St) (e : En) (B H : Hp), At W σ e B H → ∀ ds e', f e = some (ds, e') →
  ∀ R : It → Hp → Prop, (∀ J B1 H1, At W σ e' B1 H1 → Gx σ e B H e' B1 H1 → Wk K J B1 ds → R J H1) → wi σ H R
theorem wk_of {K : PySem.W.Frag} {J : It} {n : Nat} {G : Hp → Prop} {Y : Nat → Hp → V → Hp → Prop} {B0 : Hp} {ds : List PyData} (w : Walk J n G Y) (hn : n = ds.length) (hG : ∀ H1, Ex B0 H1 → G H1)
    (hY : ∀ (i : Nat) d B1 H1 x H2, Ex B0 B1 → Ex B1 H1 → ds[i]? = some d → Y i H1 x H2 → ∃ B2, Gr B1 H1 B2 H2 ∧ Dp K B2 x d) : Wk K J B0 ds := by
  subst hn
  refine ⟨fun i B1 H1 x y hi => w.goes i H1 hi (hG H1 (x.trans y)), fun B1 H1 x y => w.stops H1 (hG H1 (x.trans y)), fun i d B1 H1 v H2 x y hd hv => hY i d B1 H1 v H2 x y hd (w.yields i H1 v H2 (List.getElem?_eq_some_iff.mp hd).1 (hG H1 (x.trans y)) hv)⟩
section
variable {K : PySem.W.Frag} {B0 : Hp} {ds : List PyData}
theorem wk_list {a : Addr} {xs : List V} (h : SqL K B0 a xs) (hd : DpAll K B0 xs ds) : Wk K (Itl K a) B0 ds := wk_of walk_list (DpAll.length hd) (fun H1 e => ex_l e h) fun i d B1 H1 x H2 e1 e2 hi y => by
  obtain ⟨rfl, hx⟩ := y
  obtain ⟨d', k1, k2⟩ := hd.get hx
  rw [hi] at k1
  cases k1
  exact ⟨B1, .refl e2, dp_mono e1 k2⟩
theorem wk_tup {a : Addr} {xs : List V} (h : SqT K B0 a xs) (hd : DpAll K B0 xs ds) : Wk K (Itt K a) B0 ds := wk_of walk_tup (DpAll.length hd) (fun H1 e => ex_t e h) fun i d B1 H1 x H2 e1 e2 hi y => by
  obtain ⟨rfl, hx⟩ := y
  obtain ⟨d', k1, k2⟩ := hd.get hx
  rw [hi] at k1
  cases k1
  exact ⟨B1, .refl e2, dp_mono e1 k2⟩
def rgD (lo : Int) (n : Nat) : List PyData := (List.range n).map fun i => .int (lo + (i : Nat))
theorem wk_range {lo : Int} {n : Nat} : Wk K (Itr lo n) B0 (rgD lo n) := wk_of walk_range (by unfold rgD; rw [List.length_map, List.length_range]) (fun _ _ => trivial) fun i d B1 H1 x H2 e1 e2 hi y => by
  obtain ⟨rfl, rfl⟩ := y
  unfold rgD at hi
  rw [List.getElem?_map] at hi
  obtain ⟨j, hj, rfl⟩ := Option.map_eq_some_iff.mp hi
  have e : j = i := by
    have := List.getElem?_eq_some_iff.mp hj
    obtain ⟨h1, h2⟩ := this
    rw [List.getElem_range] at h2
    exact h2.symm
  subst e
  exact ⟨B1, .refl e2, .int _⟩
def enD (k0 : Int) : List PyData → List PyData
  | [] => []
  | d :: ds => .tuple [.int k0, d] :: enD (k0 + 1) ds
theorem enD_length : ∀ (ds : List PyData) (k0 : Int), (enD k0 ds).length = ds.length
  | [], _ => rfl
  | _ :: ds, k0 => congrArg Nat.succ (enD_length ds (k0 + 1))
theorem enD_get : ∀ (ds : List PyData) (k0 : Int) (i : Nat), (enD k0 ds)[i]? = (ds[i]?).map fun d => .tuple [.int (k0 + (i : Nat)), d]
  | [], k0, i => by simp [enD]
  | d :: ds, k0, 0 => by
    show some (PyData.tuple [.int k0, d]) = some (.tuple [.int (k0 + ((0 : Nat) : Int)), d])
    rw [show k0 + ((0 : Nat) : Int) = k0 by omega]
  | d :: ds, k0, i + 1 => by
    show (enD (k0 + 1) ds)[i]? = (ds[i]?).map _
    rw [enD_get ds (k0 + 1) i]
    congr 1
    funext d'
    rw [show k0 + 1 + (i : Nat) = k0 + ((i + 1 : Nat) : Int) by omega]
theorem pair_new {B1 H1 H2 : Hp} {T : Addr} {i : Int} {x : V} {d : PyData} (e2 : Ex B1 H1) (hT : H1 T = none) (h : H2 = upd H1 T (.tup [.int i, x])) (hd : Dp K B1 x d) : ∃ B2, Gr B1 H1 B2 H2 ∧ Dp K B2 (.ref T) (.tuple [.int i, d]) := by
  subst h
  have g : Gr B1 H1 (upd B1 T (.tup [.int i, x])) (upd H1 T (.tup [.int i, x])) := Gr.new e2 hT
  exact ⟨_, g, .tup (st_of upd_same) (.cons (.int i) (.cons (dp_mono g.hg hd) .nil))⟩
theorem wk_enL {a : Addr} {xs : List V} {k0 : Int} (h : SqL K B0 a xs) (hd : DpAll K B0 xs ds) : Wk K (IteL K a k0) B0 (enD k0 ds) := wk_of walk_enumL (by rw [enD_length]; exact DpAll.length hd) (fun H1 e => ex_l e h) fun i d B1 H1 x H2 e1 e2 hi y => by
  obtain ⟨T, z, rfl, hT, hH, hx⟩ := y
  obtain ⟨d', k1, k2⟩ := hd.get hx
  rw [enD_get, k1] at hi
  cases hi
  exact pair_new e2 hT hH (dp_mono e1 k2)
theorem wk_enT {a : Addr} {xs : List V} {k0 : Int} (h : SqT K B0 a xs) (hd : DpAll K B0 xs ds) : Wk K (IteT K a k0) B0 (enD k0 ds) := wk_of walk_enumT (by rw [enD_length]; exact DpAll.length hd) (fun H1 e => ex_t e h) fun i d B1 H1 x H2 e1 e2 hi y => by
  obtain ⟨T, z, rfl, hT, hH, hx⟩ := y
  obtain ⟨d', k1, k2⟩ := hd.get hx
  rw [enD_get, k1] at hi
  cases hi
  exact pair_new e2 hT hH (dp_mono e1 k2)
theorem rev_get (ds : List PyData) (i : Nat) (d : PyData) (h : ds.reverse[i]? = some d) : ds[ds.length - 1 - i]? = some d := by
  have hi := (List.getElem?_eq_some_iff.mp h).1
  rw [List.length_reverse] at hi
  rw [List.getElem?_reverse hi] at h
  exact h
theorem wk_revL {a : Addr} {xs : List V} (h : SqL K B0 a xs) (hd : DpAll K B0 xs ds) : Wk K (Itv K a xs.length) B0 ds.reverse := wk_of walk_rev (by rw [List.length_reverse]; exact DpAll.length hd) (fun H1 e => ex_l e h) fun i d B1 H1 x H2 e1 e2 hi y => by
  obtain ⟨rfl, hx⟩ := y
  obtain ⟨d', k1, k2⟩ := hd.get hx
  rw [DpAll.length hd, rev_get ds i d hi] at k1
  cases k1
  exact ⟨B1, .refl e2, dp_mono e1 k2⟩
theorem wk_revT {a : Addr} {xs : List V} (h : SqT K B0 a xs) (hd : DpAll K B0 xs ds) : Wk K (RT.ItvT K a xs.length) B0 ds.reverse := wk_of walk_revT (by rw [List.length_reverse]; exact DpAll.length hd) (fun H1 e => ex_t e h) fun i d B1 H1 x H2 e1 e2 hi y => by
  obtain ⟨rfl, hx⟩ := y
  obtain ⟨d', k1, k2⟩ := hd.get hx
  rw [DpAll.length hd, rev_get ds i d hi] at k1
  cases k1
  exact ⟨B1, .refl e2, dp_mono e1 k2⟩
end
def dItems (f : Dn PyData) : Dn (List PyData) := dBind f fun d => dLift (itemsOf d)
def dRev (f : Dn PyData) : Dn (List PyData) := dBind f fun d => dLift ((itemsOf d).map List.reverse)
def dEnum (f : Dn (List PyData)) : Dn (List PyData) := dBind f fun ds => match ds with
  | [d] => dLift ((itemsOf d).map (enD 0))
  | _ => fun _ => none
def dEnumS (f g : Dn (List PyData)) : Dn (List PyData) := dBind f fun ds => dBind g fun ks => match ds, ks with
  | [d], [.int k] => if -1000000 ≤ k ∧ k ≤ 1000000 then dLift ((itemsOf d).map (enD k)) else fun _ => none
  | _, _ => fun _ => none
def big (i : Int) : Bool := decide (-1000000 ≤ i ∧ i ≤ 1000000)
def dRg1 (f : Dn (List PyData)) : Dn (List PyData) := dBind f fun ds => match ds with
  | [.int n] => if big n = true then dK (rgD 0 n.toNat) else fun _ => none
  | _ => fun _ => none
def dRg2 (f : Dn (List PyData)) : Dn (List PyData) := dBind f fun ds => match ds with
  | [.int i, .int j] => if (big i && big j) = true then dK (rgD i (j - i).toNat) else fun _ => none
  | _ => fun _ => none
section
variable {K : PySem.W.Frag} {te : TE} {ta tk : TA} {f : Dn PyData} {fl fk : Dn (List PyData)}
theorem si_row (h : SE K te f) : SI K (iRow K te) (dItems f) := fun W hW σ e B H a ds e' h' R q => by
  obtain ⟨d, e1, h1, h2⟩ := dBind_some h'
  obtain ⟨h3, rfl⟩ := dLift_some h2
  obtain ⟨b, rfl⟩ := items_rows h3
  refine h W hW σ e B H a _ e' h1 _ fun v B1 H1 a1 g1 d1 => ?_
  obtain ⟨p, xs, rfl, hr, hd⟩ := row_of d1
  refine ⟨p, rfl, ?_⟩
  rcases hr with hr | hr
  · exact .inl ⟨⟨xs, ex_l a1.ex hr⟩, q _ B1 H1 a1 g1 (wk_list hr hd)⟩
  · exact .inr ⟨⟨xs, ex_t a1.ex hr⟩, q _ B1 H1 a1 g1 (wk_tup hr hd)⟩
theorem si_rev (h : SE K te f) : SI K (RT.iRevA K te) (dRev f) := fun W hW σ e B H a ds e' h' R q => by
  obtain ⟨d, e1, h1, h2⟩ := dBind_some h'
  obtain ⟨h3, rfl⟩ := dLift_some h2
  obtain ⟨xs, hx, rfl⟩ := Option.map_eq_some_iff.mp h3
  obtain ⟨b, rfl⟩ := items_rows hx
  refine h W hW σ e B H a _ e' h1 _ fun v B1 H1 a1 g1 d1 => ?_
  obtain ⟨p, us, rfl, hr, hd⟩ := row_of d1
  refine ⟨p, us, rfl, ?_⟩
  rcases hr with hr | hr
  · exact .inl ⟨ex_l a1.ex hr, q _ B1 H1 a1 g1 (wk_revL hr hd)⟩
  · exact .inr ⟨ex_t a1.ex hr, q _ B1 H1 a1 g1 (wk_revT hr hd)⟩
theorem si_enumR (h : SA K ta fl) : SI K (iEnumR K ta) (dEnum fl) := fun W hW σ e B H a ds e' h' R q => by
  obtain ⟨d, e1, h1, h2⟩ := dBind_some h'
  split at h2
  · rename_i d1
    obtain ⟨h3, rfl⟩ := dLift_some h2
    obtain ⟨xs, hx, rfl⟩ := Option.map_eq_some_iff.mp h3
    obtain ⟨b, rfl⟩ := items_rows hx
    refine h W hW σ e B H a _ e' h1 _ fun vs B1 H1 a1 g1 d1 => ?_
    cases d1 with
    | cons dv dr =>
      cases dr
      obtain ⟨p, us, rfl, hr, hd⟩ := row_of dv
      refine ⟨_, rfl, p, rfl, ?_⟩
      rcases hr with hr | hr
      · exact .inl ⟨⟨us, ex_l a1.ex hr⟩, q _ B1 H1 a1 g1 (wk_enL hr hd)⟩
      · exact .inr ⟨⟨us, ex_t a1.ex hr⟩, q _ B1 H1 a1 g1 (wk_enT hr hd)⟩
  · cases h2
theorem si_enumS (h : SA K ta fl) (hk : SA K tk fk) : SI K (iEnumS K ta tk) (dEnumS fl fk) := fun W hW σ e B H a ds e' h' R q => by
  obtain ⟨d, e1, h1, h2⟩ := dBind_some h'
  obtain ⟨ks, e2, h1', h4⟩ := dBind_some h2
  clear h2
  split at h4
  · rename_i d1 k
    split at h4
    · rename_i hb
      obtain ⟨h3, rfl⟩ := dLift_some h4
      obtain ⟨xs, hx, rfl⟩ := Option.map_eq_some_iff.mp h3
      obtain ⟨b, rfl⟩ := items_rows hx
      refine h W hW σ e B H a _ e1 h1 _ fun vs B1 H1 a1 g1 d1 => hk W hW σ e1 B1 H1 a1 _ e' h1' _ fun ws B2 H2 a2 g2 d2 => ?_
      cases d1 with
      | cons dv dr =>
        cases dr
        have ek := DpAll.ints (ns := [k]) d2
        subst ek
        obtain ⟨p, us, rfl, hr, hd⟩ := row_of dv
        refine ⟨_, k, rfl, rfl, by omega, by omega, p, rfl, ?_⟩
        rcases hr with hr | hr
        · exact .inl ⟨⟨us, ex_l (g2.go.hg.trans a2.ex) hr⟩, q _ B2 H2 a2 (g1.trans g2) (wk_enL (ex_l g2.go.hg hr) (dpa_mono g2.go.hg hd))⟩
        · exact .inr ⟨⟨us, ex_t (g2.go.hg.trans a2.ex) hr⟩, q _ B2 H2 a2 (g1.trans g2) (wk_enT (ex_t g2.go.hg hr) (dpa_mono g2.go.hg hd))⟩
    · cases h4
  · cases h4
theorem si_rg1 (h : SA K ta fl) : SI K (iRng1 ta) (dRg1 fl) := fun W hW σ e B H a ds e' h' R q => by
  obtain ⟨d, e1, h1, h2⟩ := dBind_some h'
  split at h2
  · rename_i n
    split at h2
    · rename_i hb
      obtain ⟨rfl, rfl⟩ := dK_some h2
      have hb := of_decide_eq_true hb
      refine h W hW σ e B H a _ e' h1 _ fun vs B1 H1 a1 g1 d1 => ?_
      have ek := DpAll.ints (ns := [n]) d1
      subst ek
      have bg : (1000000 : Int) < 2 ^ 62 := by decide
      exact ⟨n, rfl, by omega, by omega, q _ B1 H1 a1 g1 wk_range⟩
    · cases h2
  · cases h2
theorem si_rg2 (h : SA K ta fl) : SI K (iRng2 ta) (dRg2 fl) := fun W hW σ e B H a ds e' h' R q => by
  obtain ⟨d, e1, h1, h2⟩ := dBind_some h'
  split at h2
  · rename_i i j
    split at h2
    · rename_i hb
      obtain ⟨rfl, rfl⟩ := dK_some h2
      rw [Bool.and_eq_true] at hb
      have hb1 := of_decide_eq_true hb.1
      have hb2 := of_decide_eq_true hb.2
      refine h W hW σ e B H a _ e' h1 _ fun vs B1 H1 a1 g1 d1 => ?_
      have ek := DpAll.ints (ns := [i, j]) d1
      subst ek
      have bg : (1000000 : Int) < 2 ^ 62 := by decide
      exact ⟨i, j, rfl, ⟨by omega, by omega, by omega, by omega⟩, q _ B1 H1 a1 g1 wk_range⟩
    · cases h2
  · cases h2
end

/-! ### for, while -/
def runFor (g : PyData → En → Option En) (b : Ds) : List PyData → Ds
  | [] => fun e => some (.nx e)
  | d :: ds => fun e => match g d e with
    | none => none
    | some e1 => match b e1 with
      | none => none
      | some (.nx e2) => runFor g b ds e2
      | some (.ct e2) => runFor g b ds e2
      | some (.bk e2) => some (.nx e2)
      | some (.rt d e2) => some (.rt d e2)
      | some (.rl xs e2) => some (.rl xs e2)
def sFor (it : Dn (List PyData)) (g : PyData → En → Option En) (b : Ds) : Ds := fun e => match it e with
  | some (ds, e1) => runFor g b ds e1
  | none => none
def whileN (c : Dn Bool) (b : Ds) : Nat → Ds
  | 0 => fun _ => none
  | n + 1 => fun e => match c e with
    | none => none
    | some (false, e1) => some (.nx e1)
    | some (true, e1) => match b e1 with
      | none => none
      | some (.nx e2) => whileN c b n e2
      | some (.ct e2) => whileN c b n e2
      | some (.bk e2) => some (.nx e2)
      | some (.rt d e2) => some (.rt d e2)
      | some (.rl xs e2) => some (.rl xs e2)
open Classical in
noncomputable def sWhile (c : Dn Bool) (b : Ds) : Ds := fun e => if h : ∃ n r, whileN c b n e = some r then some h.choose_spec.choose else none
theorem whileN_more {c : Dn Bool} {b : Ds} : ∀ {n m : Nat} {e : En} {r : Rs}, n ≤ m → whileN c b n e = some r → whileN c b m e = some r
  | 0, m, e, r, _, h => by cases h
  | n + 1, 0, e, r, hm, h => absurd hm (by omega)
  | n + 1, m + 1, e, r, hm, h => by
    have ih := fun e r => whileN_more (c := c) (b := b) (n := n) (m := m) (e := e) (r := r) (by omega)
    unfold whileN at h ⊢
    split at h <;> rename_i hc
    · cases h
    · exact h
    · split at h <;> rename_i hb
      · cases h
      · exact ih _ _ h
      · exact ih _ _ h
      · exact h
      · exact h
      · exact h
theorem sWhile_eq {c : Dn Bool} {b : Ds} {n : Nat} {e : En} {r : Rs} (h : whileN c b n e = some r) : sWhile c b e = some r := by
  have hx : ∃ n r, whileN c b n e = some r := ⟨n, r, h⟩
  unfold sWhile
  rw [dif_pos hx]
  have h2 := hx.choose_spec.choose_spec
  have e1 := whileN_more (Nat.le_max_left hx.choose n) h2
  have e2 := whileN_more (Nat.le_max_right hx.choose n) h
  rw [e1] at e2
  exact e2
theorem sWhile_some {c : Dn Bool} {b : Ds} {e : En} {r : Rs} (h : sWhile c b e = some r) : ∃ n, whileN c b n e = some r := by
  unfold sWhile at h
  split at h
  · rename_i hx
    cases h
    exact ⟨_, hx.choose_spec.choose_spec⟩
  · cases h
section
variable {K : PySem.W.Frag} {wi : TI} {g : TG} {tb : TS} {tc : TT} {sl : List Nat} {it : Dn (List PyData)} {fg : PyData → En → Option En} {fb : Ds} {c : Dn Bool}
theorem ss_for (hi : SI K wi it) (hg : SG K g sl fg) (hb : SS K tb fb) : SS K (tFor wi g tb) (sFor it fg fb) := fun W hW σ e B H a r hr D q => by
  unfold sFor at hr
  split at hr
  · rename_i ds e1 h1
    refine hi W hW σ e B H a ds e1 h1 _ fun J B1 H1 a1 g1 wk => ?_
    have gM := a.goM g1
    refine ⟨fun i m σ' H' => ∃ e' B', At W σ' e' B' H' ∧ Go W.M B H B' H' ∧ Ex B1 B' ∧ i ≤ ds.length ∧ m = ds.length - i ∧ runFor fg fb (ds.drop i) e' = some r, ⟨_, e1, B1, a1, gM, Ex.refl B1, Nat.zero_le _, rfl, hr⟩, ?_⟩
    rintro i m σ' H' ⟨e', B', a', g', x', hi', rfl, hr'⟩
    by_cases hlt : i < ds.length
    · refine .inr ⟨wk.go i B' H' x' a'.ex hlt, fun σ2 H2 => ∃ e2 B2, At W σ2 e2 B2 H2 ∧ Go W.M B H B2 H2 ∧ Ex B1 B2 ∧ runFor fg fb (ds.drop (i + 1)) e2 = some r, ?_, ?_⟩
      · rintro σ2 H2 ⟨e2, B2, a2, g2, x2, hr2⟩
        exact ⟨ds.length - (i + 1), by omega, e2, B2, a2, g2, x2, hlt, rfl, hr2⟩
      · intro x H2 hy
        obtain ⟨B2, gr, hd⟩ := wk.yl i ds[i] B' H' x H2 x' a'.ex (List.getElem?_eq_getElem hlt) hy
        rw [List.drop_eq_getElem_cons hlt] at hr'
        unfold runFor at hr'
        have a2 := a'.gr gr
        have g2 := g'.trans (.gr gr)
        split at hr'
        · cases hr'
        rename_i e3 h3
        refine hg W hW σ' e' B2 H2 x _ a2 hd e3 h3 _ fun σ3 a3 o3 _ _ => ?_
        have x3 := x'.trans gr.hg
        split at hr'
        · cases hr'
        · rename_i e4 h4
          exact hb W hW σ3 e3 B2 H2 a3 _ h4 _ fun σ5 B5 H5 a5 g5 => ⟨e4, B5, a5, g2.trans g5, x3.trans g5.hg, hr'⟩
        · rename_i e4 h4
          exact hb W hW σ3 e3 B2 H2 a3 _ h4 _ fun σ5 B5 H5 a5 g5 => ⟨e4, B5, a5, g2.trans g5, x3.trans g5.hg, hr'⟩
        · rename_i e4 h4
          cases hr'
          exact hb W hW σ3 e3 B2 H2 a3 _ h4 _ fun σ5 B5 H5 a5 g5 => q σ5 B5 H5 a5 (g2.trans g5)
        · rename_i d4 e4 h4
          cases hr'
          exact hb W hW σ3 e3 B2 H2 a3 _ h4 _ fun v σ5 B5 H5 a5 g5 => q v σ5 B5 H5 a5 (g2.trans g5)
        · rename_i d4 e4 h4
          cases hr'
          exact hb W hW σ3 e3 B2 H2 a3 _ h4 _ fun p vs σ5 B5 H5 a5 g5 => q p vs σ5 B5 H5 a5 (g2.trans g5)
    · have ei : i = ds.length := by omega
      subst ei
      rw [List.drop_length] at hr'
      cases hr'
      exact .inl ⟨wk.st B' H' x' a'.ex, q σ' B' H' a' g'⟩
  · cases hr
theorem ss_while (hc : ST K tc c) (hb : SS K tb fb) : SS K (tWhile tc tb) (sWhile c fb) := fun W hW σ e B H a r hr D q => by
  obtain ⟨n, hn⟩ := sWhile_some hr
  refine ⟨fun m σ' H' => ∃ e' B', At W σ' e' B' H' ∧ Go W.M B H B' H' ∧ whileN c fb m e' = some r, ⟨n, e, B, a, .refl _ _ _, hn⟩, ?_⟩
  rintro m σ' H' ⟨e', B', a', g', hr'⟩
  cases m with
  | zero => cases hr'
  | succ m =>
    unfold whileN at hr'
    split at hr'
    · cases hr'
    · rename_i e1 h1
      cases hr'
      refine hc W hW σ' e' B' H' a' _ e1 h1 _ fun B1 H1 a1 g1 => ?_
      rw [if_neg Bool.false_ne_true]
      exact q σ' B1 H1 a1 (g'.trans (a'.goM g1))
    · rename_i e1 h1
      refine hc W hW σ' e' B' H' a' _ e1 h1 _ fun B1 H1 a1 g1 => ?_
      rw [if_pos rfl]
      have g2 := g'.trans (a'.goM g1)
      refine ⟨fun σ2 H2 => ∃ e2 B2, At W σ2 e2 B2 H2 ∧ Go W.M B H B2 H2 ∧ whileN c fb m e2 = some r, fun σ2 H2 z => ⟨m, Nat.lt_succ_self m, z⟩, ?_⟩
      split at hr'
      · cases hr'
      · rename_i e4 h4
        exact hb W hW σ' e1 B1 H1 a1 _ h4 _ fun σ5 B5 H5 a5 g5 => ⟨e4, B5, a5, g2.trans g5, hr'⟩
      · rename_i e4 h4
        exact hb W hW σ' e1 B1 H1 a1 _ h4 _ fun σ5 B5 H5 a5 g5 => ⟨e4, B5, a5, g2.trans g5, hr'⟩
      · rename_i e4 h4
        cases hr'
        exact hb W hW σ' e1 B1 H1 a1 _ h4 _ fun σ5 B5 H5 a5 g5 => q σ5 B5 H5 a5 (g2.trans g5)
      · rename_i d4 e4 h4
        cases hr'
        exact hb W hW σ' e1 B1 H1 a1 _ h4 _ fun v σ5 B5 H5 a5 g5 => q v σ5 B5 H5 a5 (g2.trans g5)
      · rename_i d4 e4 h4
        cases hr'
        exact hb W hW σ' e1 B1 H1 a1 _ h4 _ fun p vs σ5 B5 H5 a5 g5 => q p vs σ5 B5 H5 a5 (g2.trans g5)
end
end Fd
end

section
set_option Elab.async false
set_option linter.all false
set_option maxRecDepth 100000
set_option maxHeartbeats 1000000
/-! Walks by meaning 4: comprehensions, defs and calls. -/
namespace Fd
open PySem PySem.Spec PyProof.Rows L2 Evl Tb

/-! ### comprehensions -/
def wipeE (e : En) : List Nat → En
  | [] => e
  | v :: vs => (wipeE e vs).set v .no
def restE (e1 e2 : En) : List Nat → En
  | [] => e2
  | v :: vs => (restE e1 e2 vs).set v (e1.getD v .no)
def vsFree (e : En) (vs : List Nat) : Bool := vs.all fun v => match e[v]? with
  | some .no => true
  | some (.d _) => true
  | _ => false
theorem wipe_len (σ : L2.St) : ∀ vs, (wipe σ vs).length = σ.length := wipe_length σ
theorem wipeE_len (e : En) : ∀ vs, (wipeE e vs).length = e.length
  | [] => rfl
  | v :: vs => by
    unfold wipeE
    rw [List.length_set, wipeE_len e vs]
theorem restE_len (e1 e2 : En) : ∀ vs, (restE e1 e2 vs).length = e2.length
  | [] => rfl
  | v :: vs => by
    unfold restE
    rw [List.length_set, restE_len e1 e2 vs]
theorem wipe_get (σ : L2.St) (i : Nat) : ∀ vs, (wipe σ vs)[i]? = if i ∈ vs then (if i < σ.length then some none else none) else σ[i]?
  | [] => by simp [wipe]
  | v :: vs => by
    unfold wipe
    rw [List.getElem?_set, wipe_get σ i vs, wipe_len]
    by_cases c : v = i
    · subst c
      by_cases d : v < σ.length
      · simp [d]
      · simp [d]
    · have c' : ¬ i = v := fun z => c z.symm
      simp [c, c']
theorem wipeE_get (e : En) (i : Nat) : ∀ vs, (wipeE e vs)[i]? = if i ∈ vs then (if i < e.length then some .no else none) else e[i]?
  | [] => by simp [wipeE]
  | v :: vs => by
    unfold wipeE
    rw [List.getElem?_set, wipeE_get e i vs, wipeE_len]
    by_cases c : v = i
    · subst c
      by_cases d : v < e.length
      · simp [d]
      · simp [d]
    · have c' : ¬ i = v := fun z => c z.symm
      simp [c, c']
theorem restE_get (e1 e2 : En) (i : Nat) : ∀ vs, (restE e1 e2 vs)[i]? = if i ∈ vs then (if i < e2.length then some (e1.getD i .no) else none) else e2[i]?
  | [] => by simp [restE]
  | v :: vs => by
    unfold restE
    rw [List.getElem?_set, restE_get e1 e2 i vs, restE_len]
    by_cases c : v = i
    · subst c
      by_cases d : v < e2.length
      · simp [d]
      · simp [d]
    · have c' : ¬ i = v := fun z => c z.symm
      simp [c, c']
theorem wipe_same {σ σ2 : L2.St} {vs : List Nat} (hl : σ2.length = σ.length) (h : ∀ i, i ∉ vs → σ2[i]? = σ[i]?) : wipe σ2 vs = wipe σ vs := by
  apply List.ext_getElem?
  intro i
  rw [wipe_get, wipe_get, hl]
  by_cases c : i ∈ vs
  · rw [if_pos c, if_pos c]
  · rw [if_neg c, if_neg c]
    exact h i c
theorem wipe_wipe (σ : L2.St) (vs : List Nat) : wipe (wipe σ vs) vs = wipe σ vs := wipe_same (wipe_len σ vs) fun i hi => by rw [wipe_get, if_neg hi]
section
variable {W : Wo} {σ : L2.St} {e : En} {B H : Hp} {vs : List Nat}
theorem At.wipe (a : At W σ e B H) (hp : ∀ i ∈ vs, W.pn i = none) : At W (L2.wipe σ vs) (wipeE e vs) B H where
  ex := a.ex
  nm := a.nm
  len := by rw [wipe_len, wipeE_len]; exact a.len
  dat := fun i x h => by
    rw [wipeE_get] at h
    rw [wipe_get]
    by_cases c : i ∈ vs
    · rw [if_pos c] at h
      split at h <;> cases h
    · rw [if_neg c] at h ⊢
      exact a.dat i x h
  own := fun i s xs h1 h2 => by
    rw [wipeE_get] at h1
    rw [wipe_get]
    by_cases c : i ∈ vs
    · rw [if_pos c] at h1
      split at h1
      · cases h1
        cases h2
      · cases h1
    · rw [if_neg c] at h1 ⊢
      exact a.own i s xs h1 h2
  sep := fun i j s t p xs ys h1 h2 h3 h4 h5 h6 => by
    have go : ∀ (i : Nat) s xs, (wipeE e vs)[i]? = some s → s.own = some xs → i ∉ vs ∧ e[i]? = some s := fun i s xs h1 h2 => by
      rw [wipeE_get] at h1
      by_cases c : i ∈ vs
      · rw [if_pos c] at h1
        split at h1
        · cases h1
          cases h2
        · cases h1
      · rw [if_neg c] at h1
        exact ⟨c, h1⟩
    obtain ⟨n1, k1⟩ := go i s xs h1 h2
    obtain ⟨n2, k2⟩ := go j t ys h3 h4
    rw [wipe_get, if_neg n1] at h5
    rw [wipe_get, if_neg n2] at h6
    exact a.sep i j s t p xs ys k1 h2 k2 h4 h5 h6
  pin := fun i b hb => by
    have c : i ∉ vs := fun z => by
      rw [hp i z] at hb
      cases hb
    rw [wipeE_get, wipe_get, if_neg c, if_neg c]
    exact a.pin i b hb
theorem ow_wipe {b : Addr} (h : Ow (L2.wipe σ vs) (wipeE e vs) b) : Ow σ e b := by
  obtain ⟨i, s, xs, h1, h2, h3⟩ := h
  rw [wipeE_get] at h1
  rw [wipe_get] at h3
  by_cases c : i ∈ vs
  · rw [if_pos c] at h1
    split at h1
    · cases h1
      cases h2
    · cases h1
  · rw [if_neg c] at h1 h3
    exact ⟨i, s, xs, h1, h2, h3⟩
theorem free_at {i : Nat} (h : vsFree e vs = true) (hi : i ∈ vs) : e[i]? = some .no ∨ ∃ x, e[i]? = some (.d x) := by
  have z := List.all_eq_true.mp h i hi
  split at z
  · exact .inl (by assumption)
  · exact .inr ⟨_, by assumption⟩
  · cases z
theorem free_pn (a : At W σ e B H) (h : vsFree e vs = true) : ∀ i ∈ vs, W.pn i = none := fun i hi => by
  cases hp : W.pn i with
  | none => rfl
  | some b =>
    obtain ⟨⟨xs, k⟩, _⟩ := a.pin i b hp
    rcases free_at h hi with z | ⟨x, z⟩ <;> rw [k] at z <;> cases z
theorem At.rest {e1 e2 : En} {B1 H1 B2 H2 : Hp} (a1 : At W σ e1 B1 H1) (hf : vsFree e1 vs = true) (x : Ex B1 B2) (a2 : At W (L2.wipe σ vs) e2 B2 H2) : At W σ (restE e1 e2 vs) B2 H2 := by
  have go : ∀ (i : Nat) s xs, (restE e1 e2 vs)[i]? = some s → s.own = some xs → i ∉ vs ∧ e2[i]? = some s := fun i s xs h1 h2 => by
    rw [restE_get] at h1
    by_cases c : i ∈ vs
    · rw [if_pos c] at h1
      split at h1
      · cases h1
        rw [List.getD_eq_getElem?_getD] at h2
        rcases free_at hf c with z | ⟨y, z⟩ <;> rw [z] at h2 <;> cases h2
      · cases h1
    · rw [if_neg c] at h1
      exact ⟨c, h1⟩
  have l2 := a2.len
  rw [wipe_len] at l2
  refine ⟨a2.ex, a2.nm, by rw [restE_len]; exact l2, fun i y h => ?_, fun i s xs h1 h2 => ?_, fun i j s t p xs ys h1 h2 h3 h4 h5 h6 => ?_, fun i b hb => ?_⟩
  · rw [restE_get] at h
    by_cases c : i ∈ vs
    · rw [if_pos c] at h
      split at h
      · have h' := Option.some.inj h
        rw [List.getD_eq_getElem?_getD] at h'
        rcases free_at hf c with z | ⟨y', z⟩
        · rw [z] at h'
          cases h'
        · rw [z] at h'
          cases h'
          obtain ⟨v, k1, k2⟩ := a1.dat i y z
          exact ⟨v, k1, dp_mono x k2⟩
      · cases h
    · rw [if_neg c] at h
      obtain ⟨v, k1, k2⟩ := a2.dat i y h
      rw [wipe_get, if_neg c] at k1
      exact ⟨v, k1, k2⟩
  · obtain ⟨c, k⟩ := go i s xs h1 h2
    obtain ⟨p, us, k1, k2⟩ := a2.own i s xs k h2
    rw [wipe_get, if_neg c] at k1
    exact ⟨p, us, k1, k2⟩
  · obtain ⟨n1, k1⟩ := go i s xs h1 h2
    obtain ⟨n2, k2⟩ := go j t ys h3 h4
    refine a2.sep i j s t p xs ys k1 h2 k2 h4 ?_ ?_
    · rw [wipe_get, if_neg n1]
      exact h5
    · rw [wipe_get, if_neg n2]
      exact h6
  · have c : i ∉ vs := fun z => by
      rw [free_pn a1 hf i z] at hb
      cases hb
    obtain ⟨⟨xs, k1⟩, k2⟩ := a2.pin i b hb
    rw [wipe_get, if_neg c] at k2
    exact ⟨⟨xs, by rw [restE_get, if_neg c]; exact k1⟩, k2⟩
theorem ow_rest {e1 e2 : En} {b : Addr} (hf : vsFree e1 vs = true) (h : Ow σ (restE e1 e2 vs) b) : Ow (L2.wipe σ vs) e2 b := by
  obtain ⟨i, s, xs, h1, h2, h3⟩ := h
  rw [restE_get] at h1
  by_cases c : i ∈ vs
  · rw [if_pos c] at h1
    split at h1
    · cases h1
      rw [List.getD_eq_getElem?_getD] at h2
      rcases free_at hf c with z | ⟨y, z⟩ <;> rw [z] at h2 <;> cases h2
    · cases h1
  · rw [if_neg c] at h1
    exact ⟨i, s, xs, h1, h2, by rw [wipe_get, if_neg c]; exact h3⟩
/-- an object that nothing here speaks of changes -/
theorem At.oth (a : At W σ e B H) {p : Addr} {o : HO} (h0 : B p = none) (no : ¬ Ow σ e p) : At W σ e B (upd H p o) where
  ex := Ex.mut a.ex h0
  nm := fun b hb => by
    by_cases c : b = p
    · subst c
      rw [upd_same] at hb
      cases hb
    · rw [upd_ne c] at hb
      exact a.nm b hb
  len := a.len
  dat := a.dat
  own := fun i s xs h1 h2 => by
    obtain ⟨q, us, g1, g2, g3, g4, g5⟩ := a.own i s xs h1 h2
    have qp : q ≠ p := fun z => by
      subst z
      exact no ⟨i, s, xs, h1, h2, g1⟩
    exact ⟨q, us, g1, g2, g3, by rw [upd_ne qp]; exact g4, g5⟩
  sep := a.sep
  pin := a.pin
theorem Go.put {M : Addr → Prop} {B H B' H' : Hp} {p : Addr} {o : HO} (g : Go M B H B' H') (hp : H p = none) : Go M B H B' (upd H' p o) :=
  ⟨g.hg, fun b u hM h => by
    have c : b ≠ p := fun z => by
      subst z
      rw [hp] at h
      cases h
    rw [upd_ne c]
    exact g.fr b u hM h, fun b h => by
    by_cases c : b = p
    · subst c
      rw [upd_same] at h
      cases h
    · rw [upd_ne c] at h
      exact g.dm b h, g.sp⟩
end
def runLc (g : PyData → En → Option En) (t : Dn Bool) (f : Dn PyData) (vs : List Nat) : List PyData → En → Option (List PyData × En)
  | [] => fun e => some ([], e)
  | d :: ds => fun e => match g d e with
    | none => none
    | some e1 => match t e1 with
      | none => none
      | some (false, e2) => runLc g t f vs ds (wipeE e2 vs)
      | some (true, e2) => match f e2 with
        | none => none
        | some (y, e3) => match runLc g t f vs ds (wipeE e3 vs) with
          | none => none
          | some (ys, e4) => some (y :: ys, e4)
def fewer (ds : List PyData) : Bool := decide (ds.length ≤ 40000)
def dLc (it : Dn (List PyData)) (g : PyData → En → Option En) (t : Dn Bool) (f : Dn PyData) (vs : List Nat) : Dn (List PyData) := fun e => match it e with
  | none => none
  | some (ds, e1) => if (vsFree e1 vs && fewer ds) = true then (match runLc g t f vs ds (wipeE e1 vs) with
    | none => none
    | some (ys, e2) => some (ys, restE e1 e2 vs)) else none
section
variable {K : PySem.W.Frag} {wi : TI} {g : TG} {tt : TT} {te : TE} {sl vs : List Nat} {it : Dn (List PyData)} {fg : PyData → En → Option En} {ft : Dn Bool} {f : Dn PyData}
theorem sl_lc (hi : SI K wi it) (hg : SG K g sl fg) (ht : ST K tt ft) (he : SE K te f) (hs : ∀ i ∈ sl, i ∈ vs) : SL K (tLc wi g tt te vs) (dLc it fg ft f vs) := fun W hW σ e B H a ys e' h' Q q => by
  unfold dLc at h'
  split at h'
  · cases h'
  rename_i ds e1 h1
  by_cases hc : (vsFree e1 vs && fewer ds) = true
  case neg =>
    rw [if_neg hc] at h'
    cases h'
  rw [if_pos hc] at h'
  rw [Bool.and_eq_true] at hc
  obtain ⟨hf, hlen⟩ := hc
  have hlen := of_decide_eq_true hlen
  split at h'
  · cases h'
  rename_i ys2 e2 h2
  cases h'
  refine hi W hW σ e B H a ds e1 h1 _ fun J B1 H1 a1 g1 wk => fun Dl hD => ?_
  have hpn := free_pn a1 hf
  have noD : ¬ Ow σ e1 Dl := fun z => (a1.ow z).2.1 hD
  have BD : B1 Dl = none := fresh_back a1.ex hD
  have aw : At W (L2.wipe σ vs) (wipeE e1 vs) B1 H1 := a1.wipe hpn
  refine ⟨fun i m H' => ∃ (e' : En) (B' : Hp) (acc : List V) (accd ys' : List PyData), At W (L2.wipe σ vs) e' B' H' ∧ Go (Ow σ e1) B1 H1 B' H' ∧ (∀ b, Ow (L2.wipe σ vs) e' b → Ow σ e1 b) ∧ H' Dl = some (.lst acc) ∧ B' Dl = none ∧ DpAll K B' acc accd ∧ i ≤ ds.length ∧ m = ds.length - i ∧
    runLc fg ft f vs (ds.drop i) e' = some (ys', e2) ∧ accd ++ ys' = ys ∧ accd.length ≤ i, ⟨_, _, B1, [], [], ys, aw.oth BD (fun z => noD (ow_wipe z)), (Go.refl _ _ _).put hD, fun b => ow_wipe, upd_same, BD, .nil, Nat.zero_le _, rfl, h2, rfl, Nat.le_refl _⟩, ?_⟩
  rintro i m H' ⟨e', B', acc, accd, ys', a', g', o', hl', hB', hd', hi', rfl, hr', hys, hal⟩
  by_cases hlt : i < ds.length
  · refine .inr ⟨wk.go i B' H' g'.hg a'.ex hlt, fun H2 => ∃ (e' : En) (B' : Hp) (acc : List V) (accd ys' : List PyData), At W (L2.wipe σ vs) e' B' H2 ∧ Go (Ow σ e1) B1 H1 B' H2 ∧ (∀ b, Ow (L2.wipe σ vs) e' b → Ow σ e1 b) ∧ H2 Dl = some (.lst acc) ∧ B' Dl = none ∧ DpAll K B' acc accd ∧
      runLc fg ft f vs (ds.drop (i + 1)) e' = some (ys', e2) ∧ accd ++ ys' = ys ∧ accd.length ≤ i + 1, ?_, ?_⟩
    · rintro H2 ⟨e', B', acc, accd, ys', p1, p2, p3, p4, p5, p6, p7, p8, p9⟩
      exact ⟨ds.length - (i + 1), by omega, e', B', acc, accd, ys', p1, p2, p3, p4, p5, p6, hlt, rfl, p7, p8, p9⟩
    intro x H2 hy
    obtain ⟨B2, gr, hdx⟩ := wk.yl i ds[i] B' H' x H2 g'.hg a'.ex (List.getElem?_eq_getElem hlt) hy
    rw [List.drop_eq_getElem_cons hlt] at hr'
    unfold runLc at hr'
    have a2 := a'.gr gr
    have g2 : Go (Ow σ e1) B1 H1 B2 H2 := g'.trans (.gr gr)
    split at hr'
    · cases hr'
    rename_i e3 h3
    refine hg W hW (L2.wipe σ vs) e' B2 H2 x _ a2 hdx e3 h3 _ fun σ3 a3 o3 w3 l3 => ?_
    have sw : L2.wipe σ3 vs = L2.wipe σ vs := by
      rw [← wipe_wipe σ vs]
      exact wipe_same l3 fun j hj => w3 j fun z => hj (hs j z)
    refine ⟨sw, ?_⟩
    have o3' : ∀ b, Ow σ3 e3 b → Ow σ e1 b := fun b hb => o' b (o3 b hb)
    have no3 : ¬ Ow σ3 e3 Dl := fun z => noD (o3' _ z)
    have hl2 : H2 Dl = some (.lst acc) := gr.h12 _ _ hl'
    have hne2 : H2 Dl ≠ none := by rw [hl2]; exact fun z => nomatch z
    have hB2 : B2 Dl = none := gr.sep Dl hB' (by rw [hl']; exact fun z => nomatch z)
    split at hr'
    · cases hr'
    · rename_i e4 h4
      refine ht W hW σ3 e3 B2 H2 a3 _ e4 h4 _ fun B4 H4 a4 g4 => ?_
      rw [if_neg Bool.false_ne_true]
      have a5 := a4.wipe hpn
      rw [sw] at a5
      refine ⟨wipeE e4 vs, B4, acc, accd, ys', a5, g2.trans (g4.go.mono o3'), fun b hb => o3' b (g4.ow b ?_), g4.go.fr _ _ no3 hl2, g4.go.sp Dl no3 hB2 hne2, dpa_mono (gr.hg.trans g4.go.hg) hd', hr', hys, by omega⟩
      rw [← sw] at hb
      exact ow_wipe hb
    · rename_i e4 h4
      refine ht W hW σ3 e3 B2 H2 a3 _ e4 h4 _ fun B4 H4 a4 g4 => ?_
      rw [if_pos rfl]
      split at hr'
      · cases hr'
      rename_i y e5 h5
      split at hr'
      · cases hr'
      rename_i ys3 e6 h6
      cases hr'
      have hl4 := g4.go.fr _ _ no3 hl2
      have hB4 := g4.go.sp Dl no3 hB2 hne2
      have no4 : ¬ Ow σ3 e4 Dl := fun z => no3 (g4.ow _ z)
      refine he W hW σ3 e4 B4 H4 a4 y e5 h5 _ fun v B5 H5 a5 g5 d5 => ?_
      have hl5 := g5.go.fr _ _ no4 hl4
      have hB5 := g5.go.sp Dl no4 hB4 (by rw [hl4]; exact fun z => nomatch z)
      have no5 : ¬ Ow σ3 e5 Dl := fun z => no4 (g5.ow _ z)
      have hal2 := DpAll.length hd'
      have a6 := (a5.oth (o := .lst (acc ++ [v])) hB5 no5).wipe hpn
      rw [sw] at a6
      refine ⟨acc, hl5, sz_lt (by omega), wipeE e5 vs, B5, acc ++ [v], accd ++ [y], ys3, a6, Go.put ((g2.trans (g4.go.mono o3')).trans (g5.go.mono fun b hb => o3' b (g4.ow b hb))) hD, fun b hb => o3' b (g4.ow b (g5.ow b ?_)), upd_same, hB5, ?_, h6, ?_, ?_⟩
      · rw [← sw] at hb
        exact ow_wipe hb
      · exact (dpa_mono ((gr.hg.trans g4.go.hg).trans g5.go.hg) hd').append (.one d5)
      · rw [List.append_assoc]
        exact hys
      · rw [List.length_append]
        show accd.length + 1 ≤ i + 1
        omega
  · have ei : i = ds.length := by omega
    subst ei
    rw [List.drop_length] at hr'
    unfold runLc at hr'
    cases hr'
    rw [List.append_nil] at hys
    subst hys
    refine .inl ⟨wk.st B' H' g'.hg a'.ex, ?_⟩
    exact q Dl acc B' H' (a1.rest hf g'.hg a') (g1.trans ⟨g', fun b hb => o' b (ow_rest hf hb)⟩) (g1.go.dm Dl hD) hl' hB' hd'
end
end Fd
end

section
set_option Elab.async false
set_option linter.all false
set_option maxRecDepth 100000
set_option maxHeartbeats 1000000
/-! Walks by meaning 5: defs and calls. -/
namespace Fd
open PySem PySem.Spec PyProof.Rows L2 Evl Tb

/-! ### what a def promises -/
def spF (K : PySem.W.Frag) (n : Nat) (F : List PyData → Option PyData) : Sp := fun vs H Q _ => ∃ (B : Hp) (ds : List PyData) (d : PyData), Ex B H ∧ ds.length = n ∧ DpAll K B vs ds ∧ F ds = some d ∧ ∀ v B' H', Gr B H B' H' → Dp K B' v d → Q v H'
def spL (K : PySem.W.Frag) (n : Nat) (F : List PyData → Option (List PyData)) : Sp := fun vs H Q _ => ∃ (B : Hp) (ds xs : List PyData), Ex B H ∧ ds.length = n ∧ DpAll K B vs ds ∧ F ds = some xs ∧
  ∀ p us B' H', Gr B H B' H' → H p = none → H' p = some (.lst us) → B' p = none → DpAll K B' us xs → Q (.ref p) H'
/-- the first argument is a list that may change -/
def spM (K : PySem.W.Frag) (n : Nat) (F : List PyData → List PyData → Option (PyData × List PyData)) : Sp := fun vs H Q _ => ∃ (B : Hp) (p : Addr) (us ws : List V) (xs ds : List PyData) (d : PyData) (ys : List PyData), vs = .ref p :: ws ∧ Ex B H ∧ B p = none ∧ H p = some (.lst us) ∧ DpAll K B us xs ∧
  ds.length + 1 = n ∧ DpAll K B ws ds ∧ F xs ds = some (d, ys) ∧ ∀ v us' B' H', Go (fun b => b = p) B H B' H' → Ex B' H' → B' p = none → H' p = some (.lst us') → DpAll K B' us' ys → Dp K B' v d → Q v H'
def spML (K : PySem.W.Frag) (n : Nat) (F : List PyData → List PyData → Option (List PyData × List PyData)) : Sp := fun vs H Q _ => ∃ (B : Hp) (p : Addr) (us ws : List V) (xs ds zs ys : List PyData), vs = .ref p :: ws ∧ Ex B H ∧ B p = none ∧ H p = some (.lst us) ∧ DpAll K B us xs ∧
  ds.length + 1 = n ∧ DpAll K B ws ds ∧ F xs ds = some (zs, ys) ∧ ∀ q ts us' B' H', Go (fun b => b = p) B H B' H' → Ex B' H' → B' p = none → H' p = some (.lst us') → DpAll K B' us' ys → H q = none → H' q = some (.lst ts) → B' q = none → DpAll K B' ts zs → Q (.ref q) H'
section
variable {K : PySem.W.Frag} {n : Nat} {ps : List Str}
theorem spF_len {F : List PyData → Option PyData} (hn : n = ps.length) : ∀ vs H Q E, spF K n F vs H Q E → vs.length = ps.length := fun vs H Q E h => by
  obtain ⟨B, ds, d, _, hl, hd, _⟩ := h
  rw [DpAll.length hd, hl, hn]
theorem spL_len {F : List PyData → Option (List PyData)} (hn : n = ps.length) : ∀ vs H Q E, spL K n F vs H Q E → vs.length = ps.length := fun vs H Q E h => by
  obtain ⟨B, ds, d, _, hl, hd, _⟩ := h
  rw [DpAll.length hd, hl, hn]
theorem spM_len {F : List PyData → List PyData → Option (PyData × List PyData)} (hn : n = ps.length) : ∀ vs H Q E, spM K n F vs H Q E → vs.length = ps.length := fun vs H Q E h => by
  obtain ⟨B, p, us, ws, xs, ds, d, ys, rfl, _, _, _, _, hl, hd, _⟩ := h
  rw [List.length_cons, DpAll.length hd, hl, hn]
theorem spML_len {F : List PyData → List PyData → Option (List PyData × List PyData)} (hn : n = ps.length) : ∀ vs H Q E, spML K n F vs H Q E → vs.length = ps.length := fun vs H Q E h => by
  obtain ⟨B, p, us, ws, xs, ds, d, ys, rfl, _, _, _, _, hl, hd, _⟩ := h
  rw [List.length_cons, DpAll.length hd, hl, hn]
end

/-! ### calls -/
def dCall (n : Nat) (F : List PyData → Option PyData) (dds : List PyData) (fl : Dn (List PyData)) : Dn PyData := dBind fl fun ds => if (ds ++ dds).length = n then dLift (F (ds ++ dds)) else fun _ => none
def dCallL (n : Nat) (F : List PyData → Option (List PyData)) (dds : List PyData) (fl : Dn (List PyData)) : Dn (List PyData) := dBind fl fun ds => if (ds ++ dds).length = n then dLift (F (ds ++ dds)) else fun _ => none
def ownB (e : En) (i : Nat) : Bool := match e[i]? with
  | some (.o _) => true
  | some (.p _) => true
  | _ => false
def dCallM {α : Type} (i n : Nat) (F : List PyData → List PyData → Option (α × List PyData)) (fl : Dn (List PyData)) : Dn α := fun e => if ownB e i = true then (match fl e with
  | none => none
  | some (ds, e1) => if ds.length + 1 = n then (match e1[i]? with
    | some (.o xs) => match F xs ds with
      | some (z, ys) => some (z, e1.set i (.o ys))
      | none => none
    | some (.p xs) => match F xs ds with
      | some (z, ys) => some (z, e1.set i (.p ys))
      | none => none
    | _ => none) else none) else none
theorem ownB_some {e : En} {i : Nat} (h : ownB e i = true) : ∃ s xs, e[i]? = some s ∧ s.own = some xs := by
  unfold ownB at h
  split at h
  · exact ⟨_, _, by assumption, rfl⟩
  · exact ⟨_, _, by assumption, rfl⟩
  · cases h
section
variable {K : PySem.W.Frag} {n : Nat} {ta : TA} {fl : Dn (List PyData)} {E : XK} {W : Wo} {σ : L2.St} {e : En} {B H : Hp}
theorem se_call {F : List PyData → Option PyData} {dvs : List V} {dds : List PyData} (hv : ∀ H, DpAll K H dvs dds) (h : SA K ta fl) : SE K (tCall (spF K n F) dvs E ta) (dCall n F dds fl) := fun W hW σ e B H a d e' h' Q q => by
  obtain ⟨ds, e1, h1, h2⟩ := dBind_some h'
  split at h2
  · rename_i hl
    obtain ⟨h3, rfl⟩ := dLift_some h2
    refine h W hW σ e B H a ds e' h1 _ fun vs B1 H1 a1 g1 d1 => ⟨B1, ds ++ dds, d, a1.ex, hl, d1.append (hv _), h3, fun v B2 H2 g2 hd => q v B2 H2 (a1.gr g2) (g1.trans (gx_gr g2)) hd⟩
  · cases h2
theorem sl_call {F : List PyData → Option (List PyData)} {dvs : List V} {dds : List PyData} (hv : ∀ H, DpAll K H dvs dds) (h : SA K ta fl) : SL K (tCall (spL K n F) dvs E ta) (dCallL n F dds fl) := fun W hW σ e B H a d e' h' Q q => by
  obtain ⟨ds, e1, h1, h2⟩ := dBind_some h'
  split at h2
  · rename_i hl
    obtain ⟨h3, rfl⟩ := dLift_some h2
    refine h W hW σ e B H a ds e' h1 _ fun vs B1 H1 a1 g1 d1 => ⟨B1, ds ++ dds, d, a1.ex, hl, d1.append (hv _), h3, fun p us B2 H2 g2 p0 hp pB hd => q p us B2 H2 (a1.gr g2) (g1.trans (gx_gr g2)) (g1.go.dm p p0) hp pB hd⟩
  · cases h2
/-- the list at a slot has changed, and new things stand -/
theorem At.step (a : At W σ e B H) {i : Nat} {s s' : Sl} {xs ys : List PyData} {p : Addr} {us : List V} {B' H' : Hp} (hi : e[i]? = some s) (hs : s.own = some xs) (hs' : s'.own = some ys) (hP : s.isP = s'.isP) (hp : σ[i]? = some (some (.ref p)))
    (g : Go (fun b => b = p) B H B' H') (x : Ex B' H') (hB : B' p = none) (hl : H' p = some (.lst us)) (hv : DpAll W.K B' us ys) : At W σ (e.set i s') B' H' ∧ Gx σ e B H (e.set i s') B' H' := by
  have old : ∀ (j : Nat) (t : Sl) zs, (e.set i s')[j]? = some t → t.own = some zs → ∃ t' zs', e[j]? = some t' ∧ t'.own = some zs' := fun j t zs h1 h2 => by
    rcases set_cases h1 with ⟨rfl, rfl, hlt⟩ | ⟨c, h⟩
    · exact ⟨s, xs, hi, hs⟩
    · exact ⟨t, zs, h, h2⟩
  refine ⟨⟨x, fun b hb => a.nm b (g.dm b hb), by rw [List.length_set]; exact a.len, fun j y h => ?_, fun j t zs h1 h2 => ?_, fun j k t u q zs ws h1 h2 h3 h4 h5 h6 => ?_, fun j b hb => ?_⟩, ⟨g.mono fun b hb => ⟨i, s, xs, hi, hs, by rw [hb]; exact hp⟩, fun b hb => ?_⟩⟩
  · rcases set_cases h with ⟨rfl, e1, hl⟩ | ⟨c, h⟩
    · subst e1
      cases hs'
    · obtain ⟨v, k1, k2⟩ := a.dat j y h
      exact ⟨v, k1, dp_mono g.hg k2⟩
  · rcases set_cases h1 with ⟨rfl, rfl, hlt⟩ | ⟨c, h⟩
    · rw [hs'] at h2
      cases h2
      obtain ⟨q, us', k1, k2, k3, k4, k5⟩ := a.own j s xs hi hs
      rw [hp] at k1
      cases k1
      exact ⟨p, us, hp, k2, hB, hl, hv⟩
    · obtain ⟨q, us', k1, k2, k3, k4, k5⟩ := a.own j t zs h h2
      have qp : ¬ q = p := fun z => by
        subst z
        exact c (a.sep j i t s q zs xs h h2 hi hs k1 hp)
      exact ⟨q, us', k1, k2, g.sp q qp k3 (by rw [k4]; exact fun z => nomatch z), g.fr q _ qp k4, dpa_mono g.hg k5⟩
  · obtain ⟨t1, z1, m1, m2⟩ := old j t zs h1 h2
    obtain ⟨t2, z2, m3, m4⟩ := old k u ws h3 h4
    exact a.sep j k t1 t2 q z1 z2 m1 m2 m3 m4 h5 h6
  · obtain ⟨⟨zs, k1⟩, k2⟩ := a.pin j b hb
    refine ⟨?_, k2⟩
    by_cases c : j = i
    · subst c
      rw [k1] at hi
      cases hi
      cases s' with
      | p ws => exact ⟨ws, getElem?_set_eq k1⟩
      | no => cases hP
      | d x => cases hP
      | o x => cases hP
    · exact ⟨zs, by rw [List.getElem?_set_ne (Ne.symm c)]; exact k1⟩
  · obtain ⟨j, t, zs, h1, h2, h3⟩ := hb
    obtain ⟨t', zs', k1, k2⟩ := old j t zs h1 h2
    exact ⟨j, t', zs', k1, k2, h3⟩
/-- the slot of a list that may change, behind the arguments -/
theorem own_at {i : Nat} {s : Sl} {xs : List PyData} (a : At W σ e B H) (hi : e[i]? = some s) (hs : s.own = some xs) : ∃ p us, σ[i]? = some (some (.ref p)) ∧ B p = none ∧ H p = some (.lst us) ∧ DpAll W.K B us xs := by
  obtain ⟨p, us, k1, k2, k3, k4, k5⟩ := a.own i s xs hi hs
  exact ⟨p, us, k1, k3, k4, k5⟩
theorem dCallM_some {α : Type} {i n : Nat} {F : List PyData → List PyData → Option (α × List PyData)} {fl : Dn (List PyData)} {e e' : En} {z : α} (h : dCallM i n F fl e = some (z, e')) :
    ∃ ds e1 s s' xs ys, ownB e i = true ∧ fl e = some (ds, e1) ∧ ds.length + 1 = n ∧ e1[i]? = some s ∧ s.own = some xs ∧ F xs ds = some (z, ys) ∧ s'.own = some ys ∧ s.isP = s'.isP ∧ e' = e1.set i s' := by
  unfold dCallM at h
  by_cases hob : ownB e i = true
  case neg =>
    rw [if_neg hob] at h
    cases h
  rw [if_pos hob] at h
  split at h
  · cases h
  rename_i ds e1 h1
  by_cases hl : ds.length + 1 = n
  · rw [if_pos hl] at h
    split at h
    · rename_i xs hx
      split at h
      · rename_i z' ys hF
        cases h
        exact ⟨ds, e1, _, .o ys, xs, ys, hob, h1, hl, hx, rfl, hF, rfl, rfl, rfl⟩
      · cases h
    · rename_i xs hx
      split at h
      · rename_i z' ys hF
        cases h
        exact ⟨ds, e1, _, .p ys, xs, ys, hob, h1, hl, hx, rfl, hF, rfl, rfl, rfl⟩
      · cases h
    · cases h
  · rw [if_neg hl] at h
    cases h
theorem se_callM {i : Nat} {F : List PyData → List PyData → Option (PyData × List PyData)} (h : SA K ta fl) : SE K (tCall (spM K n F) [] E (tCons (tVar i) ta)) (dCallM i n F fl) := fun W hW σ e B H a d e' h' Q q => by
  obtain ⟨ds, e1, s, s', xs, ys, h0, h1, hl, hi, hs, hF, hs', hP, rfl⟩ := dCallM_some h'
  obtain ⟨s0, xs0, i0, o0⟩ := ownB_some h0
  obtain ⟨p, us0, k1, _⟩ := own_at a i0 o0
  refine ⟨.ref p, k1, h W hW σ e B H a ds e1 h1 _ fun vs B1 H1 a1 g1 d1 => ?_⟩
  obtain ⟨p', us, k2, k3, k4, k5⟩ := own_at a1 hi hs
  rw [k1] at k2
  cases k2
  refine ⟨B1, p, us, vs, xs, ds, d, ys, by rw [List.append_nil], a1.ex, k3, k4, hW ▸ k5, hl, d1, hF, fun v us' B2 H2 g2 x2 z2 l2 d2 dv => ?_⟩
  obtain ⟨a2, gx⟩ := a1.step hi hs hs' hP k1 g2 x2 z2 l2 (hW ▸ d2)
  exact q v B2 H2 a2 (g1.trans gx) dv
theorem sl_callM {i : Nat} {F : List PyData → List PyData → Option (List PyData × List PyData)} (h : SA K ta fl) : SL K (tCall (spML K n F) [] E (tCons (tVar i) ta)) (dCallM i n F fl) := fun W hW σ e B H a d e' h' Q q => by
  obtain ⟨ds, e1, s, s', xs, ys, h0, h1, hl, hi, hs, hF, hs', hP, rfl⟩ := dCallM_some h'
  obtain ⟨s0, xs0, i0, o0⟩ := ownB_some h0
  obtain ⟨p, us0, k1, _⟩ := own_at a i0 o0
  refine ⟨.ref p, k1, h W hW σ e B H a ds e1 h1 _ fun vs B1 H1 a1 g1 d1 => ?_⟩
  obtain ⟨p', us, k2, k3, k4, k5⟩ := own_at a1 hi hs
  rw [k1] at k2
  cases k2
  refine ⟨B1, p, us, vs, xs, ds, d, ys, by rw [List.append_nil], a1.ex, k3, k4, hW ▸ k5, hl, d1, hF, fun r ts us' B2 H2 g2 x2 z2 l2 d2 r0 rl rB rd => ?_⟩
  obtain ⟨a2, gx⟩ := a1.step hi hs hs' hP k1 g2 x2 z2 l2 (hW ▸ d2)
  exact q r ts B2 H2 a2 (g1.trans gx) (g1.go.dm r r0) rl rB rd
end

/-! ### a def by its body -/
def init (ds : List PyData) (n : Nat) : En := ds.map .d ++ List.replicate n .no
def retD : Option Rs → Option PyData
  | some (.rt d _) => some d
  | some (.nx _) => some .none
  | some (.rl xs _) => some (.list xs)
  | _ => none
def fnD (n : Nat) (F : Ds) (ds : List PyData) : Option PyData := retD (F (init ds n))
def fnL (n : Nat) (F : Ds) (ds : List PyData) : Option (List PyData) := match F (init ds n) with
  | some (.rl xs _) => some xs
  | _ => none
def fnM (n : Nat) (F : Ds) (xs ds : List PyData) : Option (PyData × List PyData) := match F (.p xs :: init ds n) with
  | some (.rt d e) => match (e : En)[0]? with
    | some (Sl.p ys) => some (d, ys)
    | _ => none
  | some (.nx e) => match (e : En)[0]? with
    | some (Sl.p ys) => some (.none, ys)
    | _ => none
  | some (.rl zs e) => match (e : En)[0]? with
    | some (Sl.p ys) => some (.list zs, ys)
    | _ => none
  | _ => none
def fnML (n : Nat) (F : Ds) (xs ds : List PyData) : Option (List PyData × List PyData) := match F (.p xs :: init ds n) with
  | some (.rl zs e) => match (e : En)[0]? with
    | some (Sl.p ys) => some (zs, ys)
    | _ => none
  | _ => none
section
variable {K : PySem.W.Frag} {B H : Hp}
theorem start_get {N : List Str} {vs : List V} (i : Nat) (hi : i < vs.length) : (L2.start N vs)[i]? = some (some (vs[i]'hi)) := by
  unfold L2.start
  rw [List.getElem?_append_left (by rw [List.length_map]; exact hi), List.getElem?_map, List.getElem?_eq_getElem hi]
  rfl
theorem init_get {ds : List PyData} {n i : Nat} {s : Sl} (h : (init ds n)[i]? = some s) : (∃ d, ds[i]? = some d ∧ s = .d d) ∨ s = .no := by
  unfold init at h
  by_cases c : i < ds.length
  · rw [List.getElem?_append_left (by rw [List.length_map]; exact c), List.getElem?_map, List.getElem?_eq_getElem c] at h
    cases h
    exact .inl ⟨_, List.getElem?_eq_getElem c, rfl⟩
  · rw [List.getElem?_append_right (by rw [List.length_map]; omega)] at h
    exact .inr (List.eq_of_mem_replicate (List.mem_of_getElem? h))
theorem init_not_own {ds : List PyData} {n i : Nat} {s : Sl} {xs : List PyData} (h : (init ds n)[i]? = some s) (o : s.own = some xs) : False := by
  rcases init_get h with ⟨d, _, rfl⟩ | rfl <;> cases o
/-- the slots at a def's begin -/
theorem at_start {N : List Str} {vs : List V} {ds : List PyData} {n : Nat} (x : Ex B H) (hd : DpAll K B vs ds) (hn : N.length = ds.length + n) : At ⟨K, fun b => H b = none, fun _ => none⟩ (L2.start N vs) (init ds n) B H where
  ex := x
  nm := fun _ h => h
  len := by
    have := DpAll.length hd
    unfold L2.start init
    rw [List.length_append, List.length_append, List.length_map, List.length_map, List.length_replicate, List.length_replicate]
    omega
  dat := fun i y h => by
    rcases init_get h with ⟨d, hd', e⟩ | e
    · cases e
      obtain ⟨v, k1, k2⟩ := hd.get' hd'
      have hi := (List.getElem?_eq_some_iff.mp k1).1
      refine ⟨v, ?_, k2⟩
      rw [start_get i hi]
      rw [List.getElem?_eq_getElem hi] at k1
      exact congrArg some k1
    · cases e
  own := fun i s xs h o => (init_not_own h o).elim
  sep := fun i j s t p xs ys h o => (init_not_own h o).elim
  pin := fun i a h => nomatch h
theorem at_startM {N : List Str} {p : Addr} {us vs : List V} {xs ds : List PyData} {n : Nat} (x : Ex B H) (hB : B p = none) (hl : H p = some (.lst us)) (hx : DpAll K B us xs) (hd : DpAll K B vs ds) (hn : N.length = ds.length + 1 + n) :
    At ⟨K, fun b => H b = none ∨ b = p, fun i => if i = 0 then some p else none⟩ (L2.start N (.ref p :: vs)) (.p xs :: init ds n) B H where
  ex := x
  nm := fun _ h => .inl h
  len := by
    have := DpAll.length hd
    unfold L2.start init
    simp only [List.length_cons, List.length_append, List.length_map, List.length_replicate]
    omega
  dat := fun i y h => by
    cases i with
    | zero => cases h
    | succ i =>
      rcases init_get (i := i) h with ⟨d, hd', e⟩ | e
      · cases e
        obtain ⟨v, k1, k2⟩ := hd.get' hd'
        have hi := (List.getElem?_eq_some_iff.mp k1).1
        refine ⟨v, ?_, k2⟩
        rw [start_get (i + 1) (by rw [List.length_cons]; omega)]
        rw [List.getElem?_eq_getElem hi] at k1
        exact congrArg some k1
      · cases e
  own := fun i s ys h o => by
    cases i with
    | zero =>
      cases h
      cases o
      exact ⟨p, us, rfl, .inr rfl, hB, hl, hx⟩
    | succ i => exact (init_not_own (i := i) h o).elim
  sep := fun i j s t q ys zs h o h2 o2 _ _ => by
    cases i with
    | succ i => exact (init_not_own (i := i) h o).elim
    | zero =>
      cases j with
      | succ j => exact (init_not_own (i := j) h2 o2).elim
      | zero => rfl
  pin := fun i a h => by
    by_cases c : i = 0
    · subst c
      cases h
      exact ⟨⟨xs, rfl⟩, rfl⟩
    · simp only [if_neg c] at h
      cases h
theorem gr_of_go {B' H' : Hp} (g : Go (fun b => H b = none) B H B' H') (x : Ex B' H') : Gr B H B' H' :=
  ⟨g.hg, x, fun b o h => g.fr b o (fun z => by rw [z] at h; cases h) h, fun b h1 h2 => g.sp b h2 h1 h2⟩
variable {t : TS} {F : Ds} {N : List Str} {n m : Nat}
theorem body_F (h : SS K t F) (hn : N.length = m + n) {vs : List V} {Q : VK} {E : XK} (hs : spF K m (fnD n F) vs H Q E) : t { nx := fun _ H' => Q .non H', rt := Q } (L2.start N vs) H := by
  obtain ⟨B, ds, d, x, hl, hd, hF, q⟩ := hs
  have a := at_start x hd (by rw [hl]; exact hn)
  unfold fnD retD at hF
  split at hF
  · rename_i d' e' hr
    cases hF
    exact h _ rfl _ _ B H a _ hr _ fun v σ' B' H' a' g' dv => q v B' H' (gr_of_go g' a'.ex) dv
  · rename_i e' hr
    cases hF
    exact h _ rfl _ _ B H a _ hr _ fun σ' B' H' a' g' => q .non B' H' (gr_of_go g' a'.ex) .non
  · rename_i ys e' hr
    cases hF
    refine h _ rfl _ _ B H a _ hr _ fun p us σ' B' H' a' g' hM _ hp pB du => ?_
    exact q _ _ H' (gr_freeze pB hM (gr_of_go g' a'.ex) hp) (dp_freeze pB du)
  · cases hF
theorem body_L (h : SS K t F) (hn : N.length = m + n) {vs : List V} {Q : VK} {E : XK} (hs : spL K m (fnL n F) vs H Q E) : t { nx := fun _ H' => Q .non H', rt := Q } (L2.start N vs) H := by
  obtain ⟨B, ds, d, x, hl, hd, hF, q⟩ := hs
  have a := at_start x hd (by rw [hl]; exact hn)
  unfold fnL at hF
  split at hF
  · rename_i ys e' hr
    cases hF
    exact h _ rfl _ _ B H a _ hr _ fun p us σ' B' H' a' g' hM _ hp pB du => q p us B' H' (gr_of_go g' a'.ex) hM hp pB du
  · cases hF
theorem go_p {p : Addr} {B' H' : Hp} (g : Go (fun b => H b = none ∨ b = p) B H B' H') : Go (fun b => b = p) B H B' H' :=
  ⟨g.hg, fun b o hb h => g.fr b o (fun z => z.elim (fun z => by rw [z] at h; cases h) hb) h, g.dm, fun b hb h1 h2 => g.sp b (fun z => z.elim h2 hb) h1 h2⟩
theorem pin_at {W : Wo} {σ : L2.St} {e : En} {p : Addr} {ys : List PyData} (a : At W σ e B H) (hp : W.pn 0 = some p) (h0 : e[0]? = some (.p ys)) : ∃ us, B p = none ∧ H p = some (.lst us) ∧ DpAll W.K B us ys := by
  obtain ⟨_, k2⟩ := a.pin 0 p hp
  obtain ⟨p', us, k1, _, k3, k4, k5⟩ := a.own 0 _ ys h0 rfl
  rw [k2] at k1
  cases k1
  exact ⟨us, k3, k4, k5⟩
theorem body_M (h : SS K t F) (hn : N.length = m + n) {vs : List V} {Q : VK} {E : XK} (hs : spM K m (fnM n F) vs H Q E) : t { nx := fun _ H' => Q .non H', rt := Q } (L2.start N vs) H := by
  obtain ⟨B, p, us, ws, xs, ds, d, ys, rfl, x, hB, hl, hx, hm, hd, hF, q⟩ := hs
  have a := at_startM (N := N) (n := n) x hB hl hx hd (by rw [hm]; exact hn)
  unfold fnM at hF
  split at hF
  · rename_i d' e' hr
    split at hF
    · rename_i ys' h0
      cases hF
      refine h _ rfl _ _ B H a _ hr _ fun v σ' B' H' a' g' dv => ?_
      obtain ⟨us', k1, k2, k3⟩ := pin_at a' rfl h0
      exact q v us' B' H' (go_p g') a'.ex k1 k2 k3 dv
    · cases hF
  · rename_i e' hr
    split at hF
    · rename_i ys' h0
      cases hF
      refine h _ rfl _ _ B H a _ hr _ fun σ' B' H' a' g' => ?_
      obtain ⟨us', k1, k2, k3⟩ := pin_at a' rfl h0
      exact q .non us' B' H' (go_p g') a'.ex k1 k2 k3 .non
    · cases hF
  · rename_i zs e' hr
    split at hF
    · rename_i ys' h0
      cases hF
      refine h _ rfl _ _ B H a _ hr _ fun r rs σ' B' H' a' g' hM hpn hp pB du => ?_
      obtain ⟨us', k1, k2, k3⟩ := pin_at a' rfl h0
      have rp : r ≠ p := fun z => hpn 0 (by rw [z]; rfl)
      have hr0 : H r = none := hM.elim id fun z => absurd z rp
      have g2 : Go (fun b => b = p) B H (upd B' r (.lst rs)) H' := ⟨(go_p g').hg.trans (Ex.new pB), (go_p g').fr, (go_p g').dm, fun b hb h1 h2 => by
        have c : b ≠ r := fun z => by
          subst z
          exact h2 hr0
        rw [upd_ne c]
        exact (go_p g').sp b hb h1 h2⟩
      refine q _ us' _ H' g2 (fun b o hb => ?_) (by rw [upd_ne rp.symm]; exact k1) k2 (dpa_mono (Ex.new pB) k3) (.lst (sq_of upd_same) (dpa_mono (Ex.new pB) du))
      by_cases c : b = r
      · subst c
        rw [upd_same] at hb
        cases hb
        exact hp
      · rw [upd_ne c] at hb
        exact a'.ex b o hb
    · cases hF
  · cases hF
theorem body_ML (h : SS K t F) (hn : N.length = m + n) {vs : List V} {Q : VK} {E : XK} (hs : spML K m (fnML n F) vs H Q E) : t { nx := fun _ H' => Q .non H', rt := Q } (L2.start N vs) H := by
  obtain ⟨B, p, us, ws, xs, ds, d, ys, rfl, x, hB, hl, hx, hm, hd, hF, q⟩ := hs
  have a := at_startM (N := N) (n := n) x hB hl hx hd (by rw [hm]; exact hn)
  unfold fnML at hF
  split at hF
  · rename_i zs e' hr
    split at hF
    · rename_i ys' h0
      cases hF
      refine h _ rfl _ _ B H a _ hr _ fun r rs σ' B' H' a' g' hM hpn hp pB du => ?_
      obtain ⟨us', k1, k2, k3⟩ := pin_at a' rfl h0
      have rp : r ≠ p := fun z => hpn 0 (by rw [z]; rfl)
      have hr0 : H r = none := hM.elim id fun z => absurd z rp
      exact q r rs us' B' H' (go_p g') a'.ex k1 k2 k3 hr0 hp pB du
    · cases hF
  · cases hF
end
end Fd
end

section
set_option Elab.async false
set_option linter.all false
set_option maxRecDepth 100000
set_option maxHeartbeats 1000000
/-! Walks by meaning 6: operators and built-ins over data. -/
namespace Fd
open PySem PySem.Spec PyProof.Rows L2 Evl Tb

/-! ### list + list, whatever is known of them -/
theorem cat_any (l : Addr) (items : Array Value) (n : Nat) (b : Addr) (items2 : Array Value) (n2 : Nat) (d1 d2 : Option Addr) (s1 s2 : Array (Option Value)) (hc0 : items.size + items2.size ≤ sizeLine) :
    Meets (Builtin.«list.__add__» ⟨[.ref l, .ref b], []⟩) (fun _ R s => s.heap.get? l = some { cls := .type "list", dict := d1, data := .seq items n, slots := s1 } ∧ s.heap.get? b = some { cls := .type "list", dict := d2, data := .seq items2 n2, slots := s2 } ∧ R (.ok (.ret (Value.ref s.heap.objs.size))) { s with heap := s.heap.push { cls := Value.type "list", data := Data.seq (items ++ items2) }, toks := s.toks }) :=
  .of_wp fun prog w A R s h => by
    obtain ⟨hp, g, d, tk, os⟩ := s; obtain ⟨hl, hb, h⟩ := h
    have f1 := AutoSeq1.idx_int; have f2 := AutoSeq1.sub_tuple_tuple; have f3 := AutoSeq1.sub_list_list; have f4 := AutoSeq1.sub_tuple_list; have f5 := AutoSeq1.sub_list_tuple
    wp_walk using AutoSeq1.wpAny_loadPart' hl, AutoSeq1.wpAny_loadPart' hb
    exact ⟨_, rfl, h⟩
def rCatL (K : PySem.W.Frag) : R2 := fun x y H Q => ∃ l b xs zs, x = .ref l ∧ y = .ref b ∧ SqL K H l xs ∧ SqL K H b zs ∧ xs.length + zs.length ≤ sizeLine ∧ ∀ p, H p = none → Q (.ref p) (upd H p (.lst (xs ++ zs)))
theorem op_catL {X : Cx} : OpR X (binaryOp .Add) (rCatL X.K) := by
  intro pins s σ H x y v u Q I rx ry h
  obtain ⟨l, b, xs, zs, rfl, rfl, hH, hB, hz, q⟩ := h
  cases rx
  cases ry
  obtain ⟨its, r, ⟨⟨c1, dd1, da1, sl1⟩, n1, ho1, hc1, hd1, hs1⟩, z1⟩ := I.list hH
  obtain ⟨its2, r2, ⟨⟨c2, dd2, da2, sl2⟩, n2, ho2, hc2, hd2, hs2⟩, z2⟩ := I.list hB
  simp only at hc1 hs1 hc2 hs2
  subst hc1 hs1 hc2 hs2
  have e1 := r.length
  have e2 := r2.length
  refine PySem.concat_meets ⟨_, ho1, rfl⟩ ⟨_, ho2, rfl⟩ noFill_list_add seq_list_add F.slot_list_add F.entry_list_add (F.args_list_add_2 _ _) (cat_any l its.toArray n1 b its2.toArray n2 dd1 dd2 sl1 sl2 (by rw [List.size_toArray, List.size_toArray]; omega)) ⟨ho1, ho2, ?_⟩
  have ea : its.toArray ++ its2.toArray = (its ++ its2).toArray := by simp
  rw [ea]
  exact ⟨.ref _, _, I.lnew (t' := s.toks) (r.append r2) (by rw [List.length_append]; omega), rfl, q _ I.fresh⟩
def rAddS : R2 := fun x y H Q => ∃ i j : Str, x = .str i ∧ y = .str j ∧ i.length + j.length ≤ sizeLine ∧ Q (.str (i ++ j)) H
/-- + of ints, lists, tuples, texts -/
def rAddU (K : PySem.W.Frag) : R2 := fun x y H Q => rI0 (fun i j => .int (i + j)) x y H Q ∨ rCatL K x y H Q ∨ rCatA K x y H Q ∨ rAddS x y H Q
theorem op_addU {X : Cx} : OpR X (binaryOp .Add) (rAddU X.K) := by
  intro pins s σ H x y v u Q I rx ry h
  rcases h with h | h | h | h
  · exact op_add pins s σ H x y v u Q I rx ry h
  · exact op_catL pins s σ H x y v u Q I rx ry h
  · exact op_catA pins s σ H x y v u Q I rx ry h
  · exact op_add_str pins s σ H x y v u Q I rx ry h
def addD : PyData → PyData → Option PyData
  | .int i, .int j => some (.int (i + j))
  | .list xs, .list ys => if xs.length + ys.length ≤ 100000 then some (.list (xs ++ ys)) else none
  | .tuple xs, .tuple ys => if xs.length + ys.length ≤ 100000 then some (.tuple (xs ++ ys)) else none
  | .str x, .str y => if x.length + y.length ≤ 100000 then some (.str (x ++ y)) else none
  | _, _ => none
def addL : PyData → PyData → Option (List PyData)
  | .list xs, .list ys => if xs.length + ys.length ≤ 100000 then some (xs ++ ys) else none
  | _, _ => none
section
variable {K : PySem.W.Frag} {B : Hp}
theorem rf_add (x y z : PyData) (h : addD x y = some z) : RD K (rAddU K) x y B z := by
  unfold addD at h
  split at h
  · cases h
    exact fun a b H1 e hx hy Q q => .inl ⟨_, _, hx.int_of, hy.int_of, q _ B H1 (.refl e) (.int _)⟩
  · rename_i xs ys
    split at h
    · rename_i hz
      cases h
      refine fun a b H1 e hx hy Q q => .inr (.inl ?_)
      obtain ⟨p, us, rfl, h1, h2⟩ := hx.lst_of
      obtain ⟨p2, ws, rfl, h3, h4⟩ := hy.lst_of
      exact ⟨p, p2, us, ws, rfl, rfl, ex_l e h1, ex_l e h3, sz_of (by rw [DpAll.length h2, DpAll.length h4]; exact hz), fun r hr => q _ _ _ (Gr.new e hr) (.lst (sq_of upd_same) (dpa_mono (Ex.new (fresh_back e hr)) (h2.append h4)))⟩
    · cases h
  · rename_i xs ys
    split at h
    · rename_i hz
      cases h
      exact fun a b H1 e hx hy Q q => .inr (.inr (.inl (rd_catA hz a b H1 e hx hy Q q)))
    · cases h
  · rename_i xs ys
    split at h
    · rename_i hz
      cases h
      exact fun a b H1 e hx hy Q q => .inr (.inr (.inr ⟨xs, ys, hx.str_of, hy.str_of, sz_of hz, q _ B H1 (.refl e) (.str _)⟩))
    · cases h
  · cases h
theorem sl_add {ta tb : TE} {f g : Dn PyData} (ha : SE K ta f) (hb : SE K tb g) : SL K (tOp (rAddU K) ta tb) (dBind f fun x => dBind g fun y => dLift (addL x y)) := fun W hW σ e B H a d e' h Q q => by
  obtain ⟨x, e1, h1, h⟩ := dBind_some h
  obtain ⟨y, e2, h2, h⟩ := dBind_some h
  obtain ⟨h3, rfl⟩ := dLift_some h
  refine ha W hW σ e B H a x e1 h1 _ fun v1 B1 H1 a1 g1 d1 => hb W hW σ e1 B1 H1 a1 y e' h2 _ fun v2 B2 H2 a2 g2 d2 => ?_
  unfold addL at h3
  split at h3
  · rename_i xs ys
    split at h3
    · rename_i hz
      cases h3
      obtain ⟨p, us, rfl, k1, k2⟩ := d1.lst_of
      obtain ⟨p2, ws, rfl, k3, k4⟩ := d2.lst_of
      refine .inr (.inl ⟨p, p2, us, ws, rfl, rfl, ex_l (g2.go.hg.trans a2.ex) k1, ex_l a2.ex k3, sz_of (by rw [DpAll.length k2, DpAll.length k4]; exact hz), fun r hr => ?_⟩)
      have gr : Gr B2 H2 B2 (upd H2 r (.lst (us ++ ws))) := Gr.mut a2.ex hr
      exact q r _ _ _ (a2.gr gr) ((g1.trans g2).trans (gx_gr gr)) (g1.go.dm r (g2.go.dm r hr)) upd_same (fresh_back a2.ex hr) ((dpa_mono g2.go.hg k2).append k4)
    · cases h3
  · cases h3
end

/-! ### the other operators -/
def int2 (C : Int → Int → Prop) [∀ i j, Decidable (C i j)] (g : Int → Int → PyData) : PyData → PyData → Option PyData
  | .int i, .int j => if C i j then some (g i j) else none
  | _, _ => none
def subD := int2 (fun _ _ => True) fun i j => .int (i - j)
def modD := int2 (fun _ j => 0 < j) fun i j => .int (i % j)
instance (i j : Int) : Decidable (CDivW i j) := inferInstanceAs (Decidable (0 < j ∧ j.natAbs.log2 < 9000))
instance (i j : Int) : Decidable (CMulW i j) := inferInstanceAs (Decidable (i.natAbs.log2 + j.natAbs.log2 < 1000000))
instance (i j : Int) : Decidable (CMul i j) := inferInstanceAs (Decidable ((-(2 ^ 64) < i ∧ i < 2 ^ 64) ∨ (-(2 ^ 64) < j ∧ j < 2 ^ 64)))
instance (i j : Int) : Decidable (CPow i j) := inferInstanceAs (Decidable (0 ≤ j ∧ j ≤ 1000000 ∧ i.natAbs < 2 ^ 64))
def divD := int2 CDivW fun i j => .int (i / j)
def powD := int2 CPow fun i j => .int (i ^ j.toNat)
def andD := int2 (fun _ _ => True) fun i j => .int (Builtin.bitAnd i j)
def shlD := int2 CPow fun i j => .int (i * 2 ^ j.toNat)
def ltI := int2 (fun _ _ => True) fun i j => .bool (decide (i < j))
def rMulU (K : PySem.W.Frag) : R2 := fun x y H Q => rI CMul (fun i j => .int (i * j)) x y H Q ∨ rI CMulW (fun i j => .int (i * j)) x y H Q ∨ rRepA K x y H Q
theorem op_mulU {X : Cx} : OpR X (binaryOp .Mult) (rMulU X.K) := by
  intro pins s σ H x y v u Q I rx ry h
  rcases h with h | h | h
  · exact op_mul pins s σ H x y v u Q I rx ry h
  · exact op_mulW pins s σ H x y v u Q I rx ry h
  · exact op_repA pins s σ H x y v u Q I rx ry h
def mulD : PyData → PyData → Option PyData
  | .int i, .int j => if CMul i j ∨ CMulW i j then some (.int (i * j)) else none
  | .tuple xs, .int k => if xs ≠ [] ∧ 0 ≤ k ∧ k ≤ 1000 ∧ xs.length ≤ 1000 then some (.tuple (List.replicate k.toNat xs).flatten) else none
  | _, _ => none
section
variable {K : PySem.W.Frag} {B : Hp}
theorem rf_int0 {g : Int → Int → V} {gd : Int → Int → PyData} (hg : ∀ i j B, Dp K B (g i j) (gd i j)) (x y z : PyData) (h : int2 (fun _ _ => True) gd x y = some z) : RD K (rI0 g) x y B z := by
  unfold int2 at h
  split at h
  · rw [if_pos trivial] at h
    cases h
    exact fun a b H1 e hx hy Q q => ⟨_, _, hx.int_of, hy.int_of, q _ B H1 (.refl e) (hg _ _ _)⟩
  · cases h
theorem rf_intC {C : Int → Int → Prop} [∀ i j, Decidable (C i j)] {g : Int → Int → V} {gd : Int → Int → PyData} (hg : ∀ i j B, Dp K B (g i j) (gd i j)) (x y z : PyData) (h : int2 C gd x y = some z) : RD K (rI C g) x y B z := by
  unfold int2 at h
  split at h
  · split at h
    · rename_i hc
      cases h
      exact fun a b H1 e hx hy Q q => ⟨_, _, hx.int_of, hy.int_of, hc, q _ B H1 (.refl e) (hg _ _ _)⟩
    · cases h
  · cases h
theorem rf_mul (x y z : PyData) (h : mulD x y = some z) : RD K (rMulU K) x y B z := by
  unfold mulD at h
  split at h
  · split at h
    · rename_i hc
      cases h
      exact fun a b H1 e hx hy Q q => hc.elim (fun hc => .inl ⟨_, _, hx.int_of, hy.int_of, hc, q _ B H1 (.refl e) (.int _)⟩) fun hc => .inr (.inl ⟨_, _, hx.int_of, hy.int_of, hc, q _ B H1 (.refl e) (.int _)⟩)
    · cases h
  · split at h
    · rename_i hc
      cases h
      exact fun a b H1 e hx hy Q q => .inr (.inr (rd_repA hc.1 hc.2.1 hc.2.2.1 hc.2.2.2 a b H1 e hx hy Q q))
    · cases h
  · cases h
end
/-! ### comparisons: ints and texts -/
def rLtU : R2 := fun x y H Q => rI0 (fun i j => .bl (decide (i < j))) x y H Q ∨ ∃ i j : Str, x = .str i ∧ y = .str j ∧ Q (.bl (decide (i.cps.toList < j.cps.toList))) H
def rGtU : R2 := fun x y H Q => rI0 (fun i j => .bl (decide (j < i))) x y H Q ∨ ∃ i j : Str, x = .str i ∧ y = .str j ∧ Q (.bl (decide (j.cps.toList < i.cps.toList))) H
def rLeU : R2 := fun x y H Q => rI0 (fun i j => .bl (decide (i ≤ j))) x y H Q ∨ ∃ i j : Str, x = .str i ∧ y = .str j ∧ Q (.bl (!decide (j.cps.toList < i.cps.toList))) H
def rGeU : R2 := fun x y H Q => rI0 (fun i j => .bl (decide (j ≤ i))) x y H Q ∨ ∃ i j : Str, x = .str i ∧ y = .str j ∧ Q (.bl (!decide (i.cps.toList < j.cps.toList))) H
section
variable {X : Cx}
theorem op_ltU : OpR X (compareOp .Lt) rLtU := fun pins s σ H x y v u Q I rx ry h => h.elim (op_lt pins s σ H x y v u Q I rx ry) (op_lt_str pins s σ H x y v u Q I rx ry)
theorem op_gtU : OpR X (compareOp .Gt) rGtU := fun pins s σ H x y v u Q I rx ry h => h.elim (op_gt pins s σ H x y v u Q I rx ry) (op_gt_str pins s σ H x y v u Q I rx ry)
theorem op_leU : OpR X (compareOp .LtE) rLeU := fun pins s σ H x y v u Q I rx ry h => h.elim (op_le pins s σ H x y v u Q I rx ry) (op_le_str pins s σ H x y v u Q I rx ry)
theorem op_geU : OpR X (compareOp .GtE) rGeU := fun pins s σ H x y v u Q I rx ry h => h.elim (op_ge pins s σ H x y v u Q I rx ry) (op_ge_str pins s σ H x y v u Q I rx ry)
end
def cmpD (p : Int → Int → Bool) (q : Str → Str → Bool) : PyData → PyData → Option PyData
  | .int i, .int j => some (.bool (p i j))
  | .str i, .str j => some (.bool (q i j))
  | _, _ => none
def ltD := cmpD (fun i j => decide (i < j)) fun i j => decide (i.cps.toList < j.cps.toList)
def gtD := cmpD (fun i j => decide (j < i)) fun i j => decide (j.cps.toList < i.cps.toList)
def leD := cmpD (fun i j => decide (i ≤ j)) fun i j => !decide (j.cps.toList < i.cps.toList)
def geD := cmpD (fun i j => decide (j ≤ i)) fun i j => !decide (i.cps.toList < j.cps.toList)
def eqD (x y : PyData) : Option PyData := if (SeqAt.shaped x && SeqAt.shaped y) = true then some (.bool (PyData.eqv x y)) else none
def neD (x y : PyData) : Option PyData := if (SeqAt.shaped x && SeqAt.shaped y) = true then some (.bool (!PyData.eqv x y)) else none
def isNonD' (x y : PyData) : Option PyData := match y with
  | .none => some (.bool (isNonD x))
  | _ => none
def notNonD (x y : PyData) : Option PyData := match y with
  | .none => some (.bool (!isNonD x))
  | _ => none
def isBlD (x y : PyData) : Option PyData := match x, y with
  | .bool a, .bool b => some (.bool (decide (a = b)))
  | _, _ => none
def notBlD (x y : PyData) : Option PyData := match x, y with
  | .bool a, .bool b => some (.bool (!decide (a = b)))
  | _, _ => none
/-- in a list -/
def inD (neg : Bool) (x y : PyData) : Option PyData := match y with
  | .list ds => if (SeqAt.shaped x && SeqAt.shaped (.list ds)) = true then some (.bool (if neg then !(ds.any fun z => PyData.eqv z x) else ds.any fun z => PyData.eqv z x)) else none
  | _ => none
def ixD (x y : PyData) : Option PyData := match y with
  | .int i => match x with
    | .list xs => atI xs i
    | .tuple xs => atI xs i
    | .str w => if w.length ≤ 100000 then (atI w.cps.toList i).map fun c => .str ⟨#[c]⟩ else none
    | _ => none
  | _ => none
section
variable {K : PySem.W.Frag} {B : Hp}
theorem rf_cmp {r : R2} {p : Int → Int → Bool} {qs : Str → Str → Bool} (h1 : ∀ i j H Q, Q (.bl (p i j)) H → r (.int i) (.int j) H Q) (h2 : ∀ i j H Q, Q (.bl (qs i j)) H → r (.str i) (.str j) H Q) (x y z : PyData) (h : cmpD p qs x y = some z) : RD K r x y B z := by
  unfold cmpD at h
  split at h
  · cases h
    intro a b H1 e hx hy Q q
    rw [hx.int_of, hy.int_of]
    exact h1 _ _ H1 Q (q _ B H1 (.refl e) (.bl _))
  · cases h
    intro a b H1 e hx hy Q q
    rw [hx.str_of, hy.str_of]
    exact h2 _ _ H1 Q (q _ B H1 (.refl e) (.bl _))
  · cases h
theorem rf_lt (x y z : PyData) (h : ltD x y = some z) : RD K rLtU x y B z := rf_cmp (fun i j H Q q => .inl ⟨i, j, rfl, rfl, q⟩) (fun i j H Q q => .inr ⟨i, j, rfl, rfl, q⟩) x y z h
theorem rf_gt (x y z : PyData) (h : gtD x y = some z) : RD K rGtU x y B z := rf_cmp (fun i j H Q q => .inl ⟨i, j, rfl, rfl, q⟩) (fun i j H Q q => .inr ⟨i, j, rfl, rfl, q⟩) x y z h
theorem rf_le (x y z : PyData) (h : leD x y = some z) : RD K rLeU x y B z := rf_cmp (fun i j H Q q => .inl ⟨i, j, rfl, rfl, q⟩) (fun i j H Q q => .inr ⟨i, j, rfl, rfl, q⟩) x y z h
theorem rf_ge (x y z : PyData) (h : geD x y = some z) : RD K rGeU x y B z := rf_cmp (fun i j H Q q => .inl ⟨i, j, rfl, rfl, q⟩) (fun i j H Q q => .inr ⟨i, j, rfl, rfl, q⟩) x y z h
theorem rf_eq (x y z : PyData) (h : eqD x y = some z) : RD K (rEqD K) x y B z := by
  unfold eqD at h
  split at h
  · rename_i hc
    rw [Bool.and_eq_true] at hc
    cases h
    exact rd_eqD hc.1 hc.2
  · cases h
theorem rf_ne (x y z : PyData) (h : neD x y = some z) : RD K (rNeD K) x y B z := by
  unfold neD at h
  split at h
  · rename_i hc
    rw [Bool.and_eq_true] at hc
    cases h
    exact rd_neD hc.1 hc.2
  · cases h
theorem rf_isN (x y z : PyData) (h : isNonD' x y = some z) : RD K (fun x y H Q => y = .non ∧ Q (.bl (decide (x = .non))) H) x y B z := by
  unfold isNonD' at h
  split at h
  · cases h
    exact rd_isN
  · cases h
theorem rf_notN (x y z : PyData) (h : notNonD x y = some z) : RD K (fun x y H Q => y = .non ∧ Q (.bl (!decide (x = .non))) H) x y B z := by
  unfold notNonD at h
  split at h
  · cases h
    exact rd_notN
  · cases h
theorem rf_isBl (x y z : PyData) (h : isBlD x y = some z) : RD K rIsB x y B z := by
  unfold isBlD at h
  split at h
  · cases h
    exact rd_isBl
  · cases h
theorem rf_notBl (x y z : PyData) (h : notBlD x y = some z) : RD K rNotB x y B z := by
  unfold notBlD at h
  split at h
  · cases h
    exact rd_notBl
  · cases h
theorem rf_in (x y z : PyData) (h : inD false x y = some z) : RD K (rInD K) x y B z := by
  unfold inD at h
  split at h
  · rename_i ds
    split at h
    · rename_i hc
      rw [Bool.and_eq_true] at hc
      cases h
      exact fun a b H1 e hx hy Q q => ⟨x, ds, dp_mono e hx, dp_mono e hy, hc.1, hc.2, q _ B H1 (.refl e) (.bl _)⟩
    · cases h
  · cases h
theorem rf_notIn (x y z : PyData) (h : inD true x y = some z) : RD K (rNotInD K) x y B z := by
  unfold inD at h
  split at h
  · rename_i ds
    split at h
    · rename_i hc
      rw [Bool.and_eq_true] at hc
      cases h
      exact fun a b H1 e hx hy Q q => ⟨x, ds, dp_mono e hx, dp_mono e hy, hc.1, hc.2, q _ B H1 (.refl e) (.bl _)⟩
    · cases h
  · cases h
theorem rf_ix (x y z : PyData) (h : ixD x y = some z) : RD K (rIx K) x y B z := by
  unfold ixD at h
  split at h
  · rename_i i
    split at h
    · intro a b H1 e hx hy Q q
      rcases rd_ix (K := K) (b := true) h a b H1 e hx hy Q q with k | k
      · exact .inl k
      · exact .inr (.inl k)
    · intro a b H1 e hx hy Q q
      rcases rd_ix (K := K) (b := false) h a b H1 e hx hy Q q with k | k
      · exact .inl k
      · exact .inr (.inl k)
    · split at h
      · rename_i w hw
        obtain ⟨c, hc, rfl⟩ := Option.map_eq_some_iff.mp h
        exact fun a b H1 e hx hy Q q => .inr (.inr ⟨w, i, c, hx.str_of, hy.int_of, sz_of hw, hc, q _ B H1 (.refl e) (.str _)⟩)
      · cases h
    · cases h
  · cases h
theorem rf_neg {x z : PyData} (h : (match x with | .int i => some (PyData.int (-i)) | _ => none) = some z) : RUD K (rU fun i => .int (-i)) x B z := by
  split at h
  · cases h
    exact rud_neg
  · cases h
end
def negD : PyData → Option PyData
  | .int i => some (.int (-i))
  | _ => none
section
variable {K : PySem.W.Frag} {ta tb te tc : TE} {f g k : Dn PyData}
theorem se_add (ha : SE K ta f) (hb : SE K tb g) : SE K (tOp (rAddU K) ta tb) (dOp addD f g) := se_op (fun B => rf_add) ha hb
theorem se_mul (ha : SE K ta f) (hb : SE K tb g) : SE K (tOp (rMulU K) ta tb) (dOp mulD f g) := se_op (fun B => rf_mul) ha hb
theorem se_sub (ha : SE K ta f) (hb : SE K tb g) : SE K (tOp (rI0 fun i j => .int (i - j)) ta tb) (dOp subD f g) := se_op (fun B => rf_int0 fun _ _ _ => .int _) ha hb
theorem se_bitand (ha : SE K ta f) (hb : SE K tb g) : SE K (tOp (rI0 fun i j => .int (Builtin.bitAnd i j)) ta tb) (dOp andD f g) := se_op (fun B => rf_int0 fun _ _ _ => .int _) ha hb
theorem se_mod (ha : SE K ta f) (hb : SE K tb g) : SE K (tOp (rI (fun _ j => 0 < j) fun i j => .int (i % j)) ta tb) (dOp modD f g) := se_op (fun B => rf_intC fun _ _ _ => .int _) ha hb
theorem se_div (ha : SE K ta f) (hb : SE K tb g) : SE K (tOp (rI CDivW fun i j => .int (i / j)) ta tb) (dOp divD f g) := se_op (fun B => rf_intC fun _ _ _ => .int _) ha hb
theorem se_pow (ha : SE K ta f) (hb : SE K tb g) : SE K (tOp (rI CPow fun i j => .int (i ^ j.toNat)) ta tb) (dOp powD f g) := se_op (fun B => rf_intC fun _ _ _ => .int _) ha hb
theorem se_shl (ha : SE K ta f) (hb : SE K tb g) : SE K (tOp (rI CPow fun i j => .int (i * 2 ^ j.toNat)) ta tb) (dOp shlD f g) := se_op (fun B => rf_intC fun _ _ _ => .int _) ha hb
theorem se_lt (ha : SE K ta f) (hb : SE K tb g) : SE K (tOp rLtU ta tb) (dOp ltD f g) := se_op (fun B => rf_lt) ha hb
theorem se_gt (ha : SE K ta f) (hb : SE K tb g) : SE K (tOp rGtU ta tb) (dOp gtD f g) := se_op (fun B => rf_gt) ha hb
theorem se_le (ha : SE K ta f) (hb : SE K tb g) : SE K (tOp rLeU ta tb) (dOp leD f g) := se_op (fun B => rf_le) ha hb
theorem se_ge (ha : SE K ta f) (hb : SE K tb g) : SE K (tOp rGeU ta tb) (dOp geD f g) := se_op (fun B => rf_ge) ha hb
theorem se_eq (ha : SE K ta f) (hb : SE K tb g) : SE K (tOp (rEqD K) ta tb) (dOp eqD f g) := se_op (fun B => rf_eq) ha hb
theorem se_ne (ha : SE K ta f) (hb : SE K tb g) : SE K (tOp (rNeD K) ta tb) (dOp neD f g) := se_op (fun B => rf_ne) ha hb
theorem se_isN (ha : SE K ta f) (hb : SE K tb g) : SE K (tOp (fun x y H Q => y = .non ∧ Q (.bl (decide (x = .non))) H) ta tb) (dOp isNonD' f g) := se_op (fun B => rf_isN) ha hb
theorem se_notN (ha : SE K ta f) (hb : SE K tb g) : SE K (tOp (fun x y H Q => y = .non ∧ Q (.bl (!decide (x = .non))) H) ta tb) (dOp notNonD f g) := se_op (fun B => rf_notN) ha hb
theorem se_isBl (ha : SE K ta f) (hb : SE K tb g) : SE K (tOp rIsB ta tb) (dOp isBlD f g) := se_op (fun B => rf_isBl) ha hb
theorem se_notBl (ha : SE K ta f) (hb : SE K tb g) : SE K (tOp rNotB ta tb) (dOp notBlD f g) := se_op (fun B => rf_notBl) ha hb
theorem se_in (ha : SE K ta f) (hb : SE K tb g) : SE K (tOp (rInD K) ta tb) (dOp (inD false) f g) := se_op (fun B => rf_in) ha hb
theorem se_notIn (ha : SE K ta f) (hb : SE K tb g) : SE K (tOp (rNotInD K) ta tb) (dOp (inD true) f g) := se_op (fun B => rf_notIn) ha hb
theorem se_ix (ha : SE K ta f) (hb : SE K tb g) : SE K (tOp (rIx K) ta tb) (dOp ixD f g) := se_op (fun B => rf_ix) ha hb
theorem se_neg (ha : SE K ta f) : SE K (tUn (rU fun i => .int (-i)) ta) (dUn negD f) := se_un (fun B x z h => by
  unfold negD at h
  split at h
  · cases h
    exact rud_neg
  · cases h) ha
/-- a chain of two comparisons -/
def dChain (F G : PyData → PyData → Option PyData) (f g k : Dn PyData) : Dn PyData := dBind f fun x => dBind g fun y => dBind (dLift (F x y)) fun z => match z with
  | .bool true => dBind k fun w => dLift (G y w)
  | .bool false => dK (.bool false)
  | _ => fun _ => none
end
end Fd
end

section
set_option Elab.async false
set_option linter.all false
set_option maxRecDepth 100000
set_option maxHeartbeats 1000000
/-! Walks by meaning 7: chains, slices, built-ins, lists of one's own. -/
namespace Fd
open PySem PySem.Spec PyProof.Rows L2 Evl Tb

section
variable {K : PySem.W.Frag} {ta tb te tc : TE} {f g k : Dn PyData} {B : Hp}
theorem se_chain {r r' : R2} {F G : PyData → PyData → Option PyData} (hr : ∀ B x y z, F x y = some z → RD K r x y B z) (hr' : ∀ B x y z, G x y = some z → RD K r' x y B z) (ha : SE K ta f) (hb : SE K tb g) (hc : SE K tc k) :
    SE K (tChain r r' ta tb tc) (dChain F G f g k) := fun W hW σ e B H a d e' h Q q => by
  obtain ⟨x, e1, h1, k1⟩ := dBind_some h
  obtain ⟨y, e2, h2, k2⟩ := dBind_some k1
  obtain ⟨z, e3, h3', k3⟩ := dBind_some k2
  obtain ⟨h3, rfl⟩ := dLift_some h3'
  clear h k1 k2
  refine ha W hW σ e B H a x e1 h1 _ fun v1 B1 H1 a1 g1 d1 => hb W hW σ e1 B1 H1 a1 y e3 h2 _ fun v2 B2 H2 a2 g2 d2 => ?_
  refine hr B2 x y z h3 v1 v2 H2 a2.ex (dp_mono g2.go.hg d1) d2 _ fun v G H3 g3 hd => ?_
  have a3 := a2.gr g3
  have g123 := (g1.trans g2).trans (gx_gr (σ := σ) (e := e3) g3)
  split at k3
  · obtain ⟨w, e4, h4, k4⟩ := dBind_some k3
    obtain ⟨h5, rfl⟩ := dLift_some k4
    refine ⟨true, hd.bl_of, ?_⟩
    rw [if_pos rfl]
    refine hc W hW σ e3 G H3 a3 w e' h4 _ fun v4 B4 H4 a4 g4 d4 => ?_
    exact hr' B4 y w d h5 v2 v4 H4 a4.ex (dp_mono (g3.hg.trans g4.go.hg) d2) d4 Q fun v5 B5 H5 g5 d5 => q v5 B5 H5 (a4.gr g5) ((g123.trans g4).trans (gx_gr g5)) d5
  · obtain ⟨rfl, rfl⟩ := dK_some k3
    refine ⟨false, hd.bl_of, ?_⟩
    rw [if_neg Bool.false_ne_true]
    exact q _ G H3 a3 g123 (.bl false)
  · cases k3
theorem se_ltle (ha : SE K ta f) (hb : SE K tb g) (hc : SE K tc k) : SE K (tChain rLtU rLeU ta tb tc) (dChain ltD leD f g k) := se_chain (fun B => rf_lt) (fun B => rf_le) ha hb hc
theorem se_lele (ha : SE K ta f) (hb : SE K tb g) (hc : SE K tc k) : SE K (tChain rLeU rLeU ta tb tc) (dChain leD leD f g k) := se_chain (fun B => rf_le) (fun B => rf_le) ha hb hc
theorem se_ltlt (ha : SE K ta f) (hb : SE K tb g) (hc : SE K tc k) : SE K (tChain rLtU rLtU ta tb tc) (dChain ltD ltD f g k) := se_chain (fun B => rf_lt) (fun B => rf_lt) ha hb hc
theorem se_lelt (ha : SE K ta f) (hb : SE K tb g) (hc : SE K tc k) : SE K (tChain rLeU rLtU ta tb tc) (dChain leD ltD f g k) := se_chain (fun B => rf_le) (fun B => rf_lt) ha hb hc
theorem se_eqeq (ha : SE K ta f) (hb : SE K tb g) (hc : SE K tc k) : SE K (tChain (rEqD K) (rEqD K) ta tb tc) (dChain eqD eqD f g k) := se_chain (fun B => rf_eq) (fun B => rf_eq) ha hb hc

/-! ### slices -/
def SO (K : PySem.W.Frag) (to : TO) (f : Dn (Option Int)) : Prop := ∀ (W : Wo), W.K = K → ∀ (σ : L2.St) (e : En) (B H : Hp), At W σ e B H → ∀ o e', f e = some (o, e') →
  ∀ Q : Option Int → Hp → Prop, (∀ B' H', At W σ e' B' H' → Gx σ e B H e' B' H' → Q o H') → to σ H Q
def dPart (f : Dn PyData) : Dn (Option Int) := dBind f fun x => match x with
  | .int i => dK (some i)
  | _ => fun _ => none
theorem so_none : SO K tNoPart (dK none) := fun W hW σ e B H a o e' h Q q => by
  obtain ⟨rfl, rfl⟩ := dK_some h
  exact q B H a (.refl _ _ _ _)
theorem so_some (h : SE K te f) : SO K (tPart te) (dPart f) := fun W hW σ e B H a o e' h' Q q => by
  obtain ⟨x, e1, h1, h2⟩ := dBind_some h'
  split at h2
  · rename_i i
    obtain ⟨rfl, rfl⟩ := dK_some h2
    exact h W hW σ e B H a _ e' h1 _ fun v B1 H1 a1 g1 d1 => ⟨i, d1.int_of, q B1 H1 a1 g1⟩
  · cases h2
def cutL {α : Type} (xs : List α) (lo hi : Option Int) : List α := (xs.drop (HT.sIx xs.length 0 lo)).take (HT.sIx xs.length xs.length hi - HT.sIx xs.length 0 lo)
def rSlU (K : PySem.W.Frag) : V → Option Int → Option Int → Hp → VK → Prop := fun x lo hi H Q => rSlL K x lo hi H Q ∨ rSlA K x lo hi H Q
theorem sl_sliceU {X : Cx} : SlR X (rSlU X.K) := sl_list.or sl_tupA
def slD (x : PyData) (lo hi : Option Int) : Option PyData := match x with
  | .list xs => some (.list (cutL xs lo hi))
  | .tuple xs => some (.tuple (cutL xs lo hi))
  | _ => none
def slL (x : PyData) (lo hi : Option Int) : Option (List PyData) := match x with
  | .list xs => some (cutL xs lo hi)
  | _ => none
theorem cut_all {H : Hp} {xs : List V} {ds : List PyData} (h : DpAll K H xs ds) (lo hi : Option Int) : DpAll K H (cutV xs lo hi) (cutL ds lo hi) := by
  unfold cutV cutL
  rw [DpAll.length h]
  exact (h.drop _).take _
theorem cutL_whole {α : Type} {xs : List α} {lo hi : Option Int} (h : HT.sIx xs.length 0 lo = 0 ∧ HT.sIx xs.length xs.length hi = xs.length) : cutL xs lo hi = xs := by
  unfold cutL
  rw [h.1, h.2, List.drop_zero, Nat.sub_zero, List.take_length]
def dSl (f : Dn PyData) (l u : Dn (Option Int)) : Dn PyData := dBind f fun x => dBind l fun lo => dBind u fun hi => dLift (slD x lo hi)
def dSlL (f : Dn PyData) (l u : Dn (Option Int)) : Dn (List PyData) := dBind f fun x => dBind l fun lo => dBind u fun hi => dLift (slL x lo hi)
theorem se_sl {tl th : TO} {l u : Dn (Option Int)} (h : SE K te f) (hl : SO K tl l) (hu : SO K th u) : SE K (tSl (rSlU K) te tl th) (dSl f l u) := fun W hW σ e B H a d e' h' Q q => by
  obtain ⟨x, e1, h1, h2⟩ := dBind_some h'
  obtain ⟨lo, e2, h3, h4⟩ := dBind_some h2
  obtain ⟨hi, e3, h5, h6⟩ := dBind_some h4
  obtain ⟨h7, rfl⟩ := dLift_some h6
  refine h W hW σ e B H a x e1 h1 _ fun v1 B1 H1 a1 g1 d1 => hl W hW σ e1 B1 H1 a1 lo e2 h3 _ fun B2 H2 a2 g2 => hu W hW σ e2 B2 H2 a2 hi e' h5 _ fun B3 H3 a3 g3 => ?_
  have d3 := dp_mono (g2.go.hg.trans g3.go.hg) d1
  have g123 := (g1.trans g2).trans g3
  unfold slD at h7
  split at h7
  · rename_i xs
    cases h7
    obtain ⟨p, us, rfl, k1, k2⟩ := d3.lst_of
    refine .inl ⟨p, us, rfl, ex_l a3.ex k1, fun r hr => ?_⟩
    have gr : Gr B3 H3 (upd B3 r (.lst (cutV us lo hi))) _ := Gr.new a3.ex hr
    exact q _ _ _ (a3.gr gr) (g123.trans (gx_gr gr)) (.lst (sq_of upd_same) (dpa_mono gr.hg (cut_all k2 lo hi)))
  · rename_i xs
    cases h7
    obtain ⟨p, us, rfl, k1, k2⟩ := d3.tup_of
    refine .inr ⟨p, us, rfl, ex_t a3.ex k1, fun hw => ?_, fun _ r hr => ?_⟩
    · rw [DpAll.length k2] at hw
      rw [cutL_whole hw] at q
      exact q _ _ _ a3 g123 d3
    · have gr : Gr B3 H3 (upd B3 r (.tup (cutV us lo hi))) _ := Gr.new a3.ex hr
      exact q _ _ _ (a3.gr gr) (g123.trans (gx_gr gr)) (.tup (st_of upd_same) (dpa_mono gr.hg (cut_all k2 lo hi)))
  · cases h7
theorem sl_sl {tl th : TO} {l u : Dn (Option Int)} (h : SE K te f) (hl : SO K tl l) (hu : SO K th u) : SL K (tSl (rSlU K) te tl th) (dSlL f l u) := fun W hW σ e B H a d e' h' Q q => by
  obtain ⟨x, e1, h1, h2⟩ := dBind_some h'
  obtain ⟨lo, e2, h3, h4⟩ := dBind_some h2
  obtain ⟨hi, e3, h5, h6⟩ := dBind_some h4
  obtain ⟨h7, rfl⟩ := dLift_some h6
  refine h W hW σ e B H a x e1 h1 _ fun v1 B1 H1 a1 g1 d1 => hl W hW σ e1 B1 H1 a1 lo e2 h3 _ fun B2 H2 a2 g2 => hu W hW σ e2 B2 H2 a2 hi e' h5 _ fun B3 H3 a3 g3 => ?_
  have d3 := dp_mono (g2.go.hg.trans g3.go.hg) d1
  have g123 := (g1.trans g2).trans g3
  unfold slL at h7
  split at h7
  · rename_i xs
    cases h7
    obtain ⟨p, us, rfl, k1, k2⟩ := d3.lst_of
    refine .inl ⟨p, us, rfl, ex_l a3.ex k1, fun r hr => ?_⟩
    have gr : Gr B3 H3 B3 (upd H3 r (.lst (cutV us lo hi))) := Gr.mut a3.ex hr
    exact q _ _ _ _ (a3.gr gr) (g123.trans (gx_gr gr)) (g123.go.dm r hr) upd_same (fresh_back a3.ex hr) (cut_all k2 lo hi)
  · cases h7

/-! ### built-ins -/
def rLenU (K : PySem.W.Frag) : List V → Hp → VK → Prop := fun xs H Q => (∃ p ys, xs = [V.ref p] ∧ (SqL K H p ys ∨ SqT K H p ys) ∧ Q (.int ys.length) H) ∨ ∃ z : Str, xs = [.str z] ∧ z.length ≤ sizeLine ∧ Q (.int z.length) H
theorem call_lenU {X : Cx} : CallR X (.builtin "len") (rLenU X.K) := fun pins s σ H xs us Q I r h => h.elim (call_len_seq pins s σ H xs us Q I r) (call_len_str pins s σ H xs us Q I r)
def rIntU : List V → Hp → VK → Prop := fun xs H Q => (∃ i, xs = [V.int i] ∧ Q (.int i) H) ∨ ∃ k, xs = [V.bl k] ∧ Q (.int (if k then 1 else 0)) H
theorem call_intU {X : Cx} : CallR X (.type "int") rIntU := call_int1
def rTupU (K : PySem.W.Frag) : List V → Hp → VK → Prop := fun xs H Q => ∃ p ys, xs = [V.ref p] ∧ ((SqL K H p ys ∧ ∀ l, H l = none → Q (.ref l) (upd H l (.tup ys))) ∨ (SqT K H p ys ∧ Q (.ref p) H))
theorem call_tupU {X : Cx} : CallR X (.type "tuple") (rTupU X.K) := call_tuple_of
def rLstU (K : PySem.W.Frag) : List V → Hp → VK → Prop := fun xs H Q => ∃ p ys, xs = [V.ref p] ∧ (SqL K H p ys ∨ SqT K H p ys) ∧ ∀ l, H l = none → Q (.ref l) (upd H l (.lst ys))
theorem call_lstU {X : Cx} {K : PySem.W.Frag} (h : X.K = K) : CallR X (.type "list") (rLstU K) := by
  subst h
  exact call_list_of
def rMin2 : List V → Hp → VK → Prop := fun xs H Q => ∃ i j, xs = [V.int i, .int j] ∧ Q (.int (if j < i then j else i)) H
def rMax2 : List V → Hp → VK → Prop := fun xs H Q => ∃ i j, xs = [V.int i, .int j] ∧ Q (.int (if j > i then j else i)) H
theorem call_min2U {X : Cx} (hc : X.calm = true) : CallR X (.builtin "min") rMin2 := call_min2 hc
theorem call_max2U {X : Cx} (hc : X.calm = true) : CallR X (.builtin "max") rMax2 := call_max2 hc
/-- all of them ints -/
def intsOf : List PyData → Option (List Int)
  | [] => some []
  | .int i :: ds => (intsOf ds).map (i :: ·)
  | _ => none
theorem intsOf_some : ∀ {ds : List PyData} {ns : List Int}, intsOf ds = some ns → ds = ns.map .int
  | [], ns, h => by
    cases h
    rfl
  | .int i :: ds, ns, h => by
    obtain ⟨ms, h1, rfl⟩ := Option.map_eq_some_iff.mp h
    rw [intsOf_some h1]
    rfl
  | .none :: _, _, h => by cases h
  | .bool _ :: _, _, h => by cases h
  | .str _ :: _, _, h => by cases h
  | .list _ :: _, _, h => by cases h
  | .tuple _ :: _, _, h => by cases h
  | .dict _ :: _, _, h => by cases h
theorem intsOf_map : ∀ ns : List Int, intsOf (ns.map .int) = some ns
  | [] => rfl
  | n :: ns => by
    show (intsOf (ns.map .int)).map (n :: ·) = _
    rw [intsOf_map ns]
    rfl
def blsOf : List PyData → Option (List Bool)
  | [] => some []
  | .bool i :: ds => (blsOf ds).map (i :: ·)
  | _ => none
theorem blsOf_some : ∀ {ds : List PyData} {ns : List Bool}, blsOf ds = some ns → ds = ns.map .bool
  | [], ns, h => by
    cases h
    rfl
  | .bool i :: ds, ns, h => by
    obtain ⟨ms, h1, rfl⟩ := Option.map_eq_some_iff.mp h
    rw [blsOf_some h1]
    rfl
  | .none :: _, _, h => by cases h
  | .int _ :: _, _, h => by cases h
  | .str _ :: _, _, h => by cases h
  | .list _ :: _, _, h => by cases h
  | .tuple _ :: _, _, h => by cases h
  | .dict _ :: _, _, h => by cases h
theorem dpa_bls {H : Hp} : ∀ {vs : List V} {ns : List Bool}, DpAll K H vs (ns.map .bool) → vs = ns.map V.bl
  | _, [], .nil => rfl
  | _, n :: ns, .cons r a => by
    rw [Dp.bl_of r, dpa_bls a]
    rfl
def rAbs : List V → Hp → VK → Prop := fun xs H Q => ∃ i, xs = [V.int i] ∧ Q (.int (if i < 0 then -i else i)) H
theorem call_absU {X : Cx} : CallR X (.builtin "abs") rAbs := call_abs
def rRepr : List V → Hp → VK → Prop := fun xs H Q => (∃ i, xs = [V.int i] ∧ i.natAbs.log2 < 1920 ∧ Q (.str (toString i)) H) ∨ ∃ b, xs = [V.bl b] ∧ Q (.str (if b then "True" else "False")) H
theorem call_reprU {X : Cx} : CallR X (.builtin "repr") rRepr := by
  intro pins s σ H xs us Q I r h
  rcases h with ⟨i, rfl, hz, q⟩ | ⟨b, rfl, q⟩
  · obtain ⟨u, rfl, t, rfl⟩ := vals1 r
    exact PySem.P.repr_of_int hz ⟨.str _, H, I.tok _, ⟨_, rfl⟩, q⟩
  · obtain ⟨u, rfl, ru⟩ := vals1 r
    cases ru
    exact PySem.P.repr_of_bool ⟨.str _, H, I.tok _, ⟨_, rfl⟩, q⟩
def lenD : List PyData → Option PyData
  | [.list xs] => some (.int xs.length)
  | [.tuple xs] => some (.int xs.length)
  | [.str z] => if z.length ≤ 100000 then some (.int z.length) else none
  | _ => none
def intD : List PyData → Option PyData
  | [.int i] => some (.int i)
  | [.bool b] => some (.int (if b then 1 else 0))
  | _ => none
def tupD : List PyData → Option PyData
  | [.list xs] => some (.tuple xs)
  | [.tuple xs] => some (.tuple xs)
  | _ => none
def lstD : List PyData → Option (List PyData)
  | [.list xs] => some xs
  | [.tuple xs] => some xs
  | _ => none
def min2D : List PyData → Option PyData
  | [.int i, .int j] => some (.int (min i j))
  | _ => none
def max2D : List PyData → Option PyData
  | [.int i, .int j] => some (.int (max i j))
  | _ => none
def absD : List PyData → Option PyData
  | [.int i] => some (.int i.natAbs)
  | _ => none
def sumD : List PyData → Option PyData
  | [.list xs] => (intsOf xs).map fun ns => .int ns.sum
  | _ => none
def maxD : List PyData → Option PyData
  | [.list xs] => match intsOf xs with
    | some (n :: ns) => some (.int (ns.foldl max n))
    | _ => none
  | _ => none
def minD : List PyData → Option PyData
  | [.list xs] => match intsOf xs with
    | some (n :: ns) => some (.int (ns.foldl min n))
    | _ => none
  | _ => none
def allD : List PyData → Option PyData
  | [.list xs] => (blsOf xs).map fun bs => .bool (bs.all id)
  | _ => none
def anyD : List PyData → Option PyData
  | [.list xs] => (blsOf xs).map fun bs => .bool (bs.any id)
  | _ => none
def reprD : List PyData → Option PyData
  | [.bool b] => some (.str (if b then "True" else "False"))
  | [.int i] => if i.natAbs.log2 < 1920 then some (.str (toString i)) else none
  | _ => none
def sortI (ns : List Int) : List Int := ns.mergeSort fun i j => decide (i ≤ j)
theorem sortI_of {ns ms : List Int} (h : ms.Perm ns) (hp : ms.Pairwise (· ≤ ·)) : ms = sortI ns := by
  unfold sortI
  have h1 : (ns.mergeSort fun i j => decide (i ≤ j)).Pairwise (· ≤ ·) := by
    have z := List.pairwise_mergeSort (le := fun i j : Int => decide (i ≤ j)) (fun a b c h1 h2 => decide_eq_true (Int.le_trans (of_decide_eq_true h1) (of_decide_eq_true h2))) (fun a b => by
      rw [Bool.or_eq_true, decide_eq_true_iff, decide_eq_true_iff]
      exact Int.le_total a b) ns
    exact z.imp fun h => of_decide_eq_true h
  exact List.Perm.eq_of_pairwise (fun a b _ _ h1 h2 => Int.le_antisymm h1 h2) hp h1 (h.trans (List.mergeSort_perm ns _).symm)
def sortedD : List PyData → Option (List PyData)
  | [.list xs] => (intsOf xs).map fun ns => (sortI ns).map .int
  | _ => none
def maxDfD : List PyData → List PyData → Option PyData
  | [.tuple xs], [.int d] => (intsOf xs).map fun ns => .int (maxOf d ns)
  | [.list xs], [.int d] => (intsOf xs).map fun ns => .int (maxOf d ns)
  | _, _ => none
/-- max of a list or a tuple, with a default -/
def rMaxDfU (K : PySem.W.Frag) : List V → List V → Hp → VK → Prop := fun vs zs H Q => ∃ a ns d0, vs = [.ref a] ∧ zs = [.int d0] ∧ (SqT K H a (ns.map V.int) ∨ SqL K H a (ns.map V.int)) ∧ Q (.int (maxOf d0 ns)) H
theorem cr_maxDfU {X : Cx} (hc : X.calm = true) (hu : X.A.units + 64 < cLine) : CallRK X (.builtin "max") [Str.ofString "default"] (rMaxDfU X.K) := by
  intro pns st σ H vs zs us ws Q I r r2 h
  obtain ⟨a, ns, d0, rfl, rfl, hs | hs, q⟩ := h
  · exact cr_maxDf hc hu pns st σ H _ _ us ws Q I r r2 ⟨a, ns, d0, rfl, rfl, hs, q⟩
  · obtain ⟨its, rv, ht, _⟩ := I.list hs
    obtain ⟨as, hr⟩ := Dp.readsAll I (ns.map .int) _ its (DpAll.of_ints ns) rv
    rw [Vals.ref1 r]
    cases r2 with
    | cons z zz =>
      cases zz
      obtain ⟨tk0, rfl⟩ := z
      have hd := depth_ints ns
      refine PySem.W.max_list_default (I.ok.hd hc) ht.isList (by simpa using hr) (alike_ints ns) (by omega) (fun h0 h' tk hk => ?_) fun y ys i v h' tk bs hy hv hr' hk => ?_
      · cases ns with
        | nil => exact ⟨.int d0, H, I.kept hk, ⟨_, rfl⟩, q⟩
        | cons n ns => cases h0
      · cases ns with
        | nil => cases hy
        | cons n ns =>
          rw [List.map_cons] at hy
          injection hy with e1 e2
          subst e1 e2
          rw [PySem.W.maxD_ints] at hr'
          cases hr' with
          | int _ t => exact ⟨.int _, H, I.kept hk, ⟨_, rfl⟩, q⟩
theorem fold_max_mem : ∀ (ns : List Int) (n : Int), (ns.foldl max n = n ∨ ns.foldl max n ∈ ns) ∧ n ≤ ns.foldl max n ∧ ∀ y ∈ ns, y ≤ ns.foldl max n
  | [], n => ⟨.inl rfl, Int.le_refl _, fun y h => by cases h⟩
  | m :: ns, n => by
    obtain ⟨h1, h2, h3⟩ := fold_max_mem ns (max n m)
    show (ns.foldl max (max n m) = n ∨ ns.foldl max (max n m) ∈ m :: ns) ∧ n ≤ ns.foldl max (max n m) ∧ ∀ y ∈ m :: ns, y ≤ ns.foldl max (max n m)
    refine ⟨?_, by omega, fun y hy => ?_⟩
    · rcases h1 with h1 | h1
      · rw [h1]
        by_cases c : n ≤ m
        · exact .inr (by rw [show max n m = m by omega]; exact List.mem_cons_self ..)
        · exact .inl (by omega)
      · exact .inr (List.mem_cons_of_mem _ h1)
    · rcases List.mem_cons.mp hy with rfl | hy
      · omega
      · exact h3 y hy
theorem fold_min_mem : ∀ (ns : List Int) (n : Int), (ns.foldl min n = n ∨ ns.foldl min n ∈ ns) ∧ ns.foldl min n ≤ n ∧ ∀ y ∈ ns, ns.foldl min n ≤ y
  | [], n => ⟨.inl rfl, Int.le_refl _, fun y h => by cases h⟩
  | m :: ns, n => by
    obtain ⟨h1, h2, h3⟩ := fold_min_mem ns (min n m)
    show (ns.foldl min (min n m) = n ∨ ns.foldl min (min n m) ∈ m :: ns) ∧ ns.foldl min (min n m) ≤ n ∧ ∀ y ∈ m :: ns, ns.foldl min (min n m) ≤ y
    refine ⟨?_, by omega, fun y hy => ?_⟩
    · rcases h1 with h1 | h1
      · rw [h1]
        by_cases c : m ≤ n
        · exact .inr (by rw [show min n m = m by omega]; exact List.mem_cons_self ..)
        · exact .inl (by omega)
      · exact .inr (List.mem_cons_of_mem _ h1)
    · rcases List.mem_cons.mp hy with rfl | hy
      · omega
      · exact h3 y hy
/-- one argument -/
theorem rcd1 {r : List V → Hp → VK → Prop} {d z : PyData} (h : ∀ v H1, Ex B H1 → Dp K B v d → ∀ Q : VK, (∀ w G H2, Gr B H1 G H2 → Dp K G w z → Q w H2) → r [v] H1 Q) : RCD K r [d] B z := fun vs H1 x hd Q q => by
  cases hd with
  | cons h1 h2 =>
    cases h2
    exact h _ H1 x h1 Q q
theorem rf_len (ds : List PyData) (z : PyData) (h : lenD ds = some z) : RCD K (rLenU K) ds B z := by
  unfold lenD at h
  split at h
  · cases h
    exact rcd1 fun v H1 x hv Q q => by
      obtain ⟨a, xs, rfl, h1, h2⟩ := hv.lst_of
      refine .inl ⟨a, xs, rfl, .inl (ex_l x h1), ?_⟩
      rw [h2.length]
      exact q _ B H1 (.refl x) (.int _)
  · cases h
    exact rcd1 fun v H1 x hv Q q => by
      obtain ⟨a, xs, rfl, h1, h2⟩ := hv.tup_of
      refine .inl ⟨a, xs, rfl, .inr (ex_t x h1), ?_⟩
      rw [h2.length]
      exact q _ B H1 (.refl x) (.int _)
  · split at h
    · rename_i w hw
      cases h
      exact rcd1 fun v H1 x hv Q q => .inr ⟨w, by rw [hv.str_of], sz_of hw, q _ B H1 (.refl x) (.int _)⟩
    · cases h
  · cases h
theorem rf_int (ds : List PyData) (z : PyData) (h : intD ds = some z) : RCD K rIntU ds B z := by
  unfold intD at h
  split at h
  · cases h
    exact rcd1 fun v H1 x hv Q q => .inl ⟨_, by rw [hv.int_of], q _ B H1 (.refl x) (.int _)⟩
  · rename_i b
    cases h
    exact rcd1 fun v H1 x hv Q q => .inr ⟨b, by rw [hv.bl_of], q _ B H1 (.refl x) (.int _)⟩
  · cases h
theorem rf_tup (ds : List PyData) (z : PyData) (h : tupD ds = some z) : RCD K (rTupU K) ds B z := by
  unfold tupD at h
  split at h
  · cases h
    exact rcd_tuple (b := true)
  · cases h
    exact rcd_tuple (b := false)
  · cases h
theorem rf_lst (ds : List PyData) (z : List PyData) (h : lstD ds = some z) : RCDL K (rLstU K) ds B z := by
  unfold lstD at h
  split at h
  · cases h
    exact rcdl_list (b := true)
  · cases h
    exact rcdl_list (b := false)
  · cases h
theorem rf_min2 (ds : List PyData) (z : PyData) (h : min2D ds = some z) : RCD K rMin2 ds B z := by
  unfold min2D at h
  split at h
  · cases h
    exact rcd_min2
  · cases h
theorem rf_max2 (ds : List PyData) (z : PyData) (h : max2D ds = some z) : RCD K rMax2 ds B z := by
  unfold max2D at h
  split at h
  · cases h
    exact rcd_max2
  · cases h
theorem rf_abs (ds : List PyData) (z : PyData) (h : absD ds = some z) : RCD K rAbs ds B z := by
  unfold absD at h
  split at h
  · rename_i i
    cases h
    exact rcd1 fun v H1 x hv Q q => ⟨i, by rw [hv.int_of], by
      rw [show (if i < 0 then -i else i) = (i.natAbs : Int) by split <;> omega]
      exact q _ B H1 (.refl x) (.int _)⟩
  · cases h
theorem rf_sum (ds : List PyData) (z : PyData) (h : sumD ds = some z) : RCD K (rSum K) ds B z := by
  unfold sumD at h
  split at h
  · obtain ⟨ns, h1, rfl⟩ := Option.map_eq_some_iff.mp h
    rw [intsOf_some h1]
    exact rcd1 fun v H1 x hv Q q => by
      obtain ⟨a, xs, rfl, k1, k2⟩ := hv.lst_of
      have e := k2.ints
      subst e
      exact ⟨a, ns, rfl, ex_l x k1, q _ B H1 (.refl x) (.int _)⟩
  · cases h
theorem rf_max (ds : List PyData) (z : PyData) (h : maxD ds = some z) : RCD K (rMax K) ds B z := by
  unfold maxD at h
  split at h
  · split at h
    · rename_i n ns h1
      cases h
      rw [intsOf_some h1]
      exact rcd1 fun v H1 x hv Q q => by
        obtain ⟨a, xs, rfl, k1, k2⟩ := hv.lst_of
        have e := k2.ints
        subst e
        refine ⟨a, n :: ns, rfl, ex_l x k1, Nat.succ_pos _, fun m hm hle => ?_⟩
        obtain ⟨m1, m2, m3⟩ := fold_max_mem ns n
        have e : m = ns.foldl max n := by
          have u1 : ns.foldl max n ≤ m := by
            rcases m1 with m1 | m1
            · rw [m1]
              exact hle n (List.mem_cons_self ..)
            · exact hle _ (List.mem_cons_of_mem _ m1)
          rcases List.mem_cons.mp hm with rfl | hm
          · omega
          · have := m3 m hm
            omega
        rw [e]
        exact q _ B H1 (.refl x) (.int _)
    · cases h
  · cases h
theorem rf_min (ds : List PyData) (z : PyData) (h : minD ds = some z) : RCD K (rMin K) ds B z := by
  unfold minD at h
  split at h
  · split at h
    · rename_i n ns h1
      cases h
      rw [intsOf_some h1]
      exact rcd1 fun v H1 x hv Q q => by
        obtain ⟨a, xs, rfl, k1, k2⟩ := hv.lst_of
        have e := k2.ints
        subst e
        refine ⟨a, n :: ns, rfl, ex_l x k1, Nat.succ_pos _, fun m hm hle => ?_⟩
        obtain ⟨m1, m2, m3⟩ := fold_min_mem ns n
        have e : m = ns.foldl min n := by
          have u1 : m ≤ ns.foldl min n := by
            rcases m1 with m1 | m1
            · rw [m1]
              exact hle n (List.mem_cons_self ..)
            · exact hle _ (List.mem_cons_of_mem _ m1)
          rcases List.mem_cons.mp hm with rfl | hm
          · omega
          · have := m3 m hm
            omega
        rw [e]
        exact q _ B H1 (.refl x) (.int _)
    · cases h
  · cases h
theorem rf_all (ds : List PyData) (z : PyData) (h : allD ds = some z) : RCD K (rAll K) ds B z := by
  unfold allD at h
  split at h
  · obtain ⟨ns, h1, rfl⟩ := Option.map_eq_some_iff.mp h
    rw [blsOf_some h1]
    exact rcd1 fun v H1 x hv Q q => by
      obtain ⟨a, xs, rfl, k1, k2⟩ := hv.lst_of
      have e := dpa_bls k2
      subst e
      exact ⟨a, ns, rfl, ex_l x k1, q _ B H1 (.refl x) (.bl _)⟩
  · cases h
theorem rf_any (ds : List PyData) (z : PyData) (h : anyD ds = some z) : RCD K (rAny K) ds B z := by
  unfold anyD at h
  split at h
  · obtain ⟨ns, h1, rfl⟩ := Option.map_eq_some_iff.mp h
    rw [blsOf_some h1]
    exact rcd1 fun v H1 x hv Q q => by
      obtain ⟨a, xs, rfl, k1, k2⟩ := hv.lst_of
      have e := dpa_bls k2
      subst e
      exact ⟨a, ns, rfl, ex_l x k1, q _ B H1 (.refl x) (.bl _)⟩
  · cases h
theorem rf_repr (ds : List PyData) (z : PyData) (h : reprD ds = some z) : RCD K rRepr ds B z := by
  unfold reprD at h
  split at h
  · rename_i b
    cases h
    exact rcd1 fun v H1 x hv Q q => .inr ⟨b, by rw [hv.bl_of], q _ B H1 (.refl x) (.str _)⟩
  · split at h
    · rename_i i hi
      cases h
      exact rcd1 fun v H1 x hv Q q => .inl ⟨i, by rw [hv.int_of], hi, q _ B H1 (.refl x) (.str _)⟩
    · cases h
  · cases h
theorem rf_sorted (ds : List PyData) (z : List PyData) (h : sortedD ds = some z) : RCDL K (rSortedI K) ds B z := by
  unfold sortedD at h
  split at h
  · obtain ⟨ns, h1, rfl⟩ := Option.map_eq_some_iff.mp h
    rw [intsOf_some h1]
    intro vs H1 x hd Q q
    cases hd with
    | cons hv h2 =>
      cases h2
      obtain ⟨a, xs, rfl, k1, k2⟩ := hv.lst_of
      have e := k2.ints
      subst e
      refine ⟨a, ns, rfl, ex_l x k1, fun ms p hm hp h0 => ?_⟩
      have e := sortI_of hm hp
      subst e
      exact q p _ B _ (fresh_back x h0) h0 (Gr.mut x h0) upd_same (DpAll.of_ints _)
  · cases h
variable {fl fk : Dn (List PyData)} {tr tk : TA}
abbrev dCb (F : List PyData → Option PyData) (fl : Dn (List PyData)) : Dn PyData := dBind fl fun ds => dLift (F ds)
abbrev dCbL (F : List PyData → Option (List PyData)) (fl : Dn (List PyData)) : Dn (List PyData) := dBind fl fun ds => dLift (F ds)
theorem se_len (h : SA K tr fl) : SE K (tCB (rLenU K) tr) (dCb lenD fl) := se_cb (fun B => rf_len) h
theorem se_intC (h : SA K tr fl) : SE K (tCB rIntU tr) (dCb intD fl) := se_cb (fun B => rf_int) h
theorem se_tupC (h : SA K tr fl) : SE K (tCB (rTupU K) tr) (dCb tupD fl) := se_cb (fun B => rf_tup) h
theorem sl_lstC (h : SA K tr fl) : SL K (tCB (rLstU K) tr) (dCbL lstD fl) := sl_cb (fun B => rf_lst) h
theorem se_min2 (h : SA K tr fl) : SE K (tCB rMin2 tr) (dCb min2D fl) := se_cb (fun B => rf_min2) h
theorem se_max2 (h : SA K tr fl) : SE K (tCB rMax2 tr) (dCb max2D fl) := se_cb (fun B => rf_max2) h
theorem se_absC (h : SA K tr fl) : SE K (tCB rAbs tr) (dCb absD fl) := se_cb (fun B => rf_abs) h
theorem se_sum (h : SA K tr fl) : SE K (tCB (rSum K) tr) (dCb sumD fl) := se_cb (fun B => rf_sum) h
theorem se_maxL (h : SA K tr fl) : SE K (tCB (rMax K) tr) (dCb maxD fl) := se_cb (fun B => rf_max) h
theorem se_minL (h : SA K tr fl) : SE K (tCB (rMin K) tr) (dCb minD fl) := se_cb (fun B => rf_min) h
theorem se_all (h : SA K tr fl) : SE K (tCB (rAll K) tr) (dCb allD fl) := se_cb (fun B => rf_all) h
theorem se_any (h : SA K tr fl) : SE K (tCB (rAny K) tr) (dCb anyD fl) := se_cb (fun B => rf_any) h
theorem se_repr (h : SA K tr fl) : SE K (tCB rRepr tr) (dCb reprD fl) := se_cb (fun B => rf_repr) h
theorem sl_sorted (h : SA K tr fl) : SL K (tCB (rSortedI K) tr) (dCbL sortedD fl) := sl_cb (fun B => rf_sorted) h
theorem se_maxDf (h : SA K tr fl) (hk : SA K tk fk) : SE K (tCKw (rMaxDfU K) tr tk) (dBind fl fun ds => dBind fk fun ks => dLift (maxDfD ds ks)) := fun W hW σ e B H a d e' h' Q q => by
  obtain ⟨ds, e1, h1, h2⟩ := dBind_some h'
  obtain ⟨ks, e2, h3, h4⟩ := dBind_some h2
  obtain ⟨h5, rfl⟩ := dLift_some h4
  refine h W hW σ e B H a ds e1 h1 _ fun vs B1 H1 a1 g1 d1 => hk W hW σ e1 B1 H1 a1 ks e' h3 _ fun zs B2 H2 a2 g2 d2 => ?_
  have d3 := dpa_mono g2.go.hg d1
  have go : ∀ (b : Bool) (xs : List PyData) (d0 : Int) ns, intsOf xs = some ns → ds = [rows b xs] → ks = [.int d0] → d = .int (maxOf d0 ns) → rMaxDfU K vs zs H2 Q := fun b xs d0 ns hn e1 e2 e3 => by
    subst e1 e2 e3
    have ez := DpAll.ints (ns := [d0]) d2
    subst ez
    rw [intsOf_some hn] at d3
    cases d3 with
    | cons hv hr =>
      cases hr
      obtain ⟨a', us, rfl, hr', hus⟩ := row_of hv
      have eu := hus.ints
      subst eu
      exact ⟨a', ns, d0, rfl, rfl, hr'.elim (fun z => .inr (ex_l a2.ex z)) (fun z => .inl (ex_t a2.ex z)), q _ B2 H2 a2 (g1.trans g2) (.int _)⟩
  unfold maxDfD at h5
  split at h5
  · obtain ⟨ns, hn, rfl⟩ := Option.map_eq_some_iff.mp h5
    exact go false _ _ ns hn rfl rfl rfl
  · obtain ⟨ns, hn, rfl⟩ := Option.map_eq_some_iff.mp h5
    exact go true _ _ ns hn rfl rfl rfl
  · cases h5
/-! ### isinstance -/
def isiD (c : String) (d : PyData) : Option PyData := (kitB (tyD d) c).map .bool
def isi2D (c1 c2 : String) (d : PyData) : Option PyData := match kitB (tyD d) c1, kitB (tyD d) c2 with
  | some b1, some b2 => some (.bool (b1 || b2))
  | _, _ => none
theorem se_isi {c : String} (ha : SE K ta f) : SE K (tCB (rIsi K) (tCons ta (tCons (tC (.ty c)) tNil))) (dUn (isiD c) f) := fun W hW σ e B H a d e' h Q q => by
  obtain ⟨x, e1, h1, h⟩ := dBind_some h
  obtain ⟨h3, rfl⟩ := dLift_some h
  obtain ⟨b, hb, rfl⟩ := Option.map_eq_some_iff.mp h3
  exact ha W hW σ e B H a x e' h1 _ fun v B1 H1 a1 g1 d1 => ⟨v, .ty c, _, _, b, rfl, .ty c, tyx_of (dp_mono a1.ex d1), kit_ty hb, q _ B1 H1 a1 g1 (.bl b)⟩
theorem se_isi2 {c1 c2 : String} (ha : SE K ta f) : SE K (tCB (rIsiT K) (tCons ta (tCons (tTup (tCons (tC (.ty c1)) (tCons (tC (.ty c2)) tNil))) tNil))) (dUn (isi2D c1 c2) f) := fun W hW σ e B H a d e' h Q q => by
  obtain ⟨x, e1, h1, h⟩ := dBind_some h
  obtain ⟨h3, rfl⟩ := dLift_some h
  unfold isi2D at h3
  split at h3
  · rename_i b1 b2 k1 k2
    cases h3
    refine ha W hW σ e B H a x e' h1 _ fun v B1 H1 a1 g1 d1 => ⟨by show 2 ≤ sizeLine; decide, fun p hp => ?_⟩
    have gr : Gr B1 H1 B1 (upd H1 p (.tup [.ty c1, .ty c2])) := Gr.mut a1.ex hp
    exact ⟨v, p, [.ty c1, .ty c2], _, [.type c1, .type c2], b1 || b2, rfl, upd_same, .cons (.ty c1) (.cons (.ty c2) .nil), tyx_of (dp_mono (a1.ex.trans (Ex.new hp)) d1),
      kitAny_cons (kit_ty k1) (fun z => by
        subst z
        exact kitAny_cons (kit_ty k2) (fun z => by
          subst z
          exact kitAny_nil) fun z => by rw [z]; rfl) (fun z => by rw [z]; rfl), q _ B1 _ (a1.gr gr) (g1.trans (gx_gr gr)) (.bl _)⟩
  · cases h3
end
end Fd
end

section
set_option Elab.async false
set_option linter.all false
set_option maxRecDepth 100000
set_option maxHeartbeats 1000000
/-! Walks by meaning 8: truth, lists of one's own that are read and changed. -/
namespace Fd
open PySem PySem.Spec PyProof.Rows L2 Evl Tb

section
variable {K : PySem.W.Frag} {ta tb te tc : TE} {f g k : Dn PyData} {B : Hp} {fl : Dn (List PyData)} {tr : TA}
/-! ### truth -/
def tTruU (K : PySem.W.Frag) (ta : TE) : TT := fun σ H Q => ta σ H fun x H' => ∃ k, TruV K x H' k ∧ Q k H'
theorem pt_truU {X : Cx} {a : Expr} (ha : PE X a ta) (he : ∀ whole, isTrue a X.env whole = (do let v ← whole; standAt a.pos; holding [v] (truthy v)) := by intro _; rfl) : PT X a (tTruU X.K ta) := pt_truth ha he
def truD : PyData → Option Bool
  | .none => some false
  | .bool b => some b
  | .int i => some (i != 0)
  | .list xs => some (!xs.isEmpty)
  | .tuple xs => some (!xs.isEmpty)
  | .str x => if x.length ≤ 100000 then some ((x.length : Int) != 0) else none
  | _ => none
def dTru (f : Dn PyData) : Dn Bool := dBind f fun x => dLift (truD x)
theorem empty_len {xs : List V} {ds : List PyData} {H : Hp} (h : DpAll K H xs ds) : xs.isEmpty = ds.isEmpty := by
  cases h <;> rfl
theorem st_truU (h : SE K te f) : ST K (tTruU K te) (dTru f) := fun W hW σ e B H a b e' h' Q q => by
  obtain ⟨x, e1, h1, h2⟩ := dBind_some h'
  obtain ⟨h3, rfl⟩ := dLift_some h2
  refine h W hW σ e B H a x e' h1 _ fun v B1 H1 a1 g1 d1 => ⟨b, ?_, q B1 H1 a1 g1⟩
  cases x with
  | none =>
    cases h3
    rw [d1.non_of]
    exact rfl
  | bool c =>
    cases h3
    rw [d1.bl_of]
    exact rfl
  | int i =>
    cases h3
    rw [d1.int_of]
    exact rfl
  | str z =>
    replace h3 : (if z.length ≤ 100000 then some ((z.length : Int) != 0) else none) = some b := h3
    split at h3
    · rename_i hz
      cases h3
      rw [d1.str_of]
      exact ⟨sz_of hz, rfl⟩
    · cases h3
  | list xs =>
    cases h3
    obtain ⟨p, us, rfl, k1, k2⟩ := d1.lst_of
    exact .inl ⟨us, ex_l a1.ex k1, by rw [empty_len k2]⟩
  | tuple xs =>
    cases h3
    obtain ⟨p, us, rfl, k1, k2⟩ := d1.tup_of
    exact .inr (.inl ⟨us, ex_t a1.ex k1, by rw [empty_len k2]⟩)
  | dict xs => cases h3

/-! ### a list of one's own, read where it stands -/
def ownL (e : En) (i : Nat) : Option (List PyData) := match e[i]? with
  | some (.o xs) => some xs
  | some (.p xs) => some xs
  | _ => none
theorem ownL_some {e : En} {i : Nat} {xs : List PyData} (h : ownL e i = some xs) : ∃ s, e[i]? = some s ∧ s.own = some xs := by
  unfold ownL at h
  split at h
  · cases h
    exact ⟨_, by assumption, rfl⟩
  · cases h
    exact ⟨_, by assumption, rfl⟩
  · cases h
/-- x[i], x at a slot: its list stays one's own -/
def dIxV (i : Nat) (g : Dn PyData) : Dn PyData := fun e => match ownL e i with
  | none => dOp ixD (dVar i) g e
  | some _ => match g e with
    | none => none
    | some (y, e1) => match ownL e1 i with
      | some xs => (match y with
        | .int k => (atI xs k).map fun d => (d, e1)
        | _ => none)
      | none => none
theorem se_ixV {i : Nat} (hb : SE K tb g) : SE K (tOp (rIx K) (tVar i) tb) (dIxV i g) := fun W hW σ e B H a d e' h Q q => by
  unfold dIxV at h
  split at h
  · exact se_ix se_var hb W hW σ e B H a d e' h Q q
  · rename_i xs0 ho
    obtain ⟨s0, i0, o0⟩ := ownL_some ho
    split at h
    · cases h
    rename_i y e1 h1
    split at h
    · rename_i xs ho1
      split at h
      · rename_i kk
        obtain ⟨d', hd, h2⟩ := Option.map_eq_some_iff.mp h
        cases h2
        obtain ⟨s1, i1, o1⟩ := ownL_some ho1
        obtain ⟨p, us0, k1, _⟩ := own_at a i0 o0
        refine ⟨.ref p, k1, hb W hW σ e B H a _ e' h1 _ fun v B1 H1 a1 g1 d1 => ?_⟩
        obtain ⟨p', us, k2, k3, k4, k5⟩ := own_at a1 i1 o1
        rw [k1] at k2
        cases k2
        rw [hW] at k5
        obtain ⟨w, w1, w2⟩ := at_dp k5 hd
        exact .inl ⟨p, us, kk, w, rfl, d1.int_of, sq_of k4, w1, q w B1 H1 a1 g1 w2⟩
      · cases h
    · cases h
def dLenV (i : Nat) : Dn PyData := fun e => match ownL e i with
  | none => dCb lenD (dCons (dVar i) (dK [])) e
  | some xs => some (.int xs.length, e)
theorem se_lenV {i : Nat} : SE K (tCB (rLenU K) (tCons (tVar i) tNil)) (dLenV i) := fun W hW σ e B H a d e' h Q q => by
  unfold dLenV at h
  split at h
  · exact se_len (sa_cons se_var sa_nil) W hW σ e B H a d e' h Q q
  · rename_i xs ho
    cases h
    obtain ⟨s0, i0, o0⟩ := ownL_some ho
    obtain ⟨p, us, k1, k2, k3, k4⟩ := own_at a i0 o0
    refine ⟨.ref p, k1, .inl ⟨p, us, rfl, .inl (sq_of k3), ?_⟩⟩
    rw [DpAll.length k4]
    exact q _ B H a (.refl _ _ _ _) (.int _)
/-- tuple(x), list(x), x a list of one's own: it stays so -/
def dTupV (i : Nat) : Dn PyData := fun e => match ownL e i with
  | none => dCb tupD (dCons (dVar i) (dK [])) e
  | some xs => some (.tuple xs, e)
theorem se_tupV {i : Nat} : SE K (tCB (rTupU K) (tCons (tVar i) tNil)) (dTupV i) := fun W hW σ e B H a d e' h Q q => by
  unfold dTupV at h
  split at h
  · exact se_tupC (sa_cons se_var sa_nil) W hW σ e B H a d e' h Q q
  · rename_i xs ho
    cases h
    obtain ⟨s0, i0, o0⟩ := ownL_some ho
    obtain ⟨p, us, k1, k2, k3, k4⟩ := own_at a i0 o0
    rw [hW] at k4
    refine ⟨.ref p, k1, p, us, rfl, .inl ⟨sq_of k3, fun r hr => ?_⟩⟩
    have gr : Gr B H (upd B r (.tup us)) _ := Gr.new a.ex hr
    exact q _ _ _ (a.gr gr) (gx_gr gr) (.tup (st_of upd_same) (dpa_mono gr.hg k4))
def dLstV (i : Nat) : Dn (List PyData) := fun e => match ownL e i with
  | none => dCbL lstD (dCons (dVar i) (dK [])) e
  | some xs => some (xs, e)
theorem sl_lstV {i : Nat} : SL K (tCB (rLstU K) (tCons (tVar i) tNil)) (dLstV i) := fun W hW σ e B H a d e' h Q q => by
  unfold dLstV at h
  split at h
  · exact sl_lstC (sa_cons se_var sa_nil) W hW σ e B H a d e' h Q q
  · rename_i xs ho
    cases h
    obtain ⟨s0, i0, o0⟩ := ownL_some ho
    obtain ⟨p, us, k1, k2, k3, k4⟩ := own_at a i0 o0
    rw [hW] at k4
    refine ⟨.ref p, k1, p, us, rfl, .inl (sq_of k3), fun r hr => ?_⟩
    have gr : Gr B H B (upd H r (.lst us)) := Gr.mut a.ex hr
    exact q r us _ _ (a.gr gr) (gx_gr gr) hr upd_same (fresh_back a.ex hr) k4
/-- x[a:b], x a list of one's own -/
def dSlV (i : Nat) (l u : Dn (Option Int)) : Dn (List PyData) := fun e => match ownL e i with
  | none => dSlL (dVar i) l u e
  | some _ => dBind l (fun lo => dBind u fun hi => fun e2 => (ownL e2 i).map fun xs => (cutL xs lo hi, e2)) e
theorem sl_slV {i : Nat} {tl th : TO} {l u : Dn (Option Int)} (hl : SO K tl l) (hu : SO K th u) : SL K (tSl (rSlU K) (tVar i) tl th) (dSlV i l u) := fun W hW σ e B H a d e' h Q q => by
  unfold dSlV at h
  split at h
  · exact sl_sl se_var hl hu W hW σ e B H a d e' h Q q
  · rename_i xs ho
    obtain ⟨s0, i0, o0⟩ := ownL_some ho
    obtain ⟨lo, e2, h3, h4⟩ := dBind_some h
    obtain ⟨hi, e3, h5, h6⟩ := dBind_some h4
    obtain ⟨ys, ho2, h7⟩ := Option.map_eq_some_iff.mp h6
    cases h7
    obtain ⟨s1, i1, o1⟩ := ownL_some ho2
    obtain ⟨p, us0, k1, _⟩ := own_at a i0 o0
    refine ⟨.ref p, k1, hl W hW σ e B H a lo e2 h3 _ fun B2 H2 a2 g2 => hu W hW σ e2 B2 H2 a2 hi e' h5 _ fun B3 H3 a3 g3 => ?_⟩
    obtain ⟨p', us, k2, k3, k4, k5⟩ := own_at a3 i1 o1
    rw [k1] at k2
    cases k2
    rw [hW] at k5
    refine .inl ⟨p, us, rfl, sq_of k4, fun r hr => ?_⟩
    have gr : Gr B3 H3 B3 (upd H3 r (.lst (cutV us lo hi))) := Gr.mut a3.ex hr
    exact q r _ _ _ (a3.gr gr) ((g2.trans g3).trans (gx_gr gr)) (g2.go.dm r (g3.go.dm r hr)) upd_same (fresh_back a3.ex hr) (cut_all k5 lo hi)

/-! ### a list of one's own, changed -/
def putL (e : En) (i : Nat) (ys : List PyData) : Option En := match e[i]? with
  | some (.o _) => some (e.set i (.o ys))
  | some (.p _) => some (e.set i (.p ys))
  | _ => none
theorem putL_some {e e' : En} {i : Nat} {ys : List PyData} (h : putL e i ys = some e') : ∃ s s' xs, e[i]? = some s ∧ s.own = some xs ∧ s'.own = some ys ∧ s.isP = s'.isP ∧ e' = e.set i s' := by
  unfold putL at h
  split at h
  · rename_i xs hx
    cases h
    exact ⟨.o xs, .o ys, xs, hx, rfl, rfl, rfl, rfl⟩
  · rename_i xs hx
    cases h
    exact ⟨.p xs, .p ys, xs, hx, rfl, rfl, rfl, rfl⟩
  · cases h
theorem at_put {W : Wo} {σ : L2.St} {e e' : En} {B H : Hp} {i : Nat} {ys : List PyData} {p : Addr} {us : List V} (a : At W σ e B H) (h : putL e i ys = some e') (hp : σ[i]? = some (some (.ref p))) (hv : DpAll W.K B us ys) : At W σ e' B (upd H p (.lst us)) ∧ Go W.M B H B (upd H p (.lst us)) := by
  obtain ⟨s, s', xs, k1, k2, k3, k4, rfl⟩ := putL_some h
  exact a.put k1 k2 k3 k4 hp hv
def few (xs : List PyData) : Bool := decide (xs.length < 90000)
/-- what a call changes at a slot -/
def sMeth (i : Nat) (F : List PyData → List PyData → Option (List PyData)) (fl : Dn (List PyData)) : Ds := fun e => match ownL e i with
  | none => none
  | some _ => match fl e with
    | none => none
    | some (ds, e1) => match ownL e1 i with
      | none => none
      | some xs => if few xs = true then (match F xs ds with
        | none => none
        | some ys => (putL e1 i ys).map .nx) else none
/-- the rule of a method: what it asks of the machine -/
def MtF (K : PySem.W.Frag) (r : V → List V → Hp → VK → Prop) (F : List PyData → List PyData → Option (List PyData)) : Prop := ∀ (B H : Hp) (p : Addr) (us vs : List V) (xs ds ys : List PyData), Ex B H → B p = none → H p = some (.lst us) → DpAll K B us xs → DpAll K B vs ds → us.length < 90000 → F xs ds = some ys →
  ∀ Q : VK, (∀ ws, DpAll K B ws ys → Q .non (upd H p (.lst ws))) → r (.ref p) vs H Q
theorem ss_meth {i : Nat} {r : V → List V → Hp → VK → Prop} {F : List PyData → List PyData → Option (List PyData)} (hr : MtF K r F) (h : SA K tr fl) : SS K (tDrop (tBM K "list" r (tVar i) tr)) (sMeth i F fl) := fun W hW σ e B H a rs hrs D q => by
  unfold sMeth at hrs
  split at hrs
  · cases hrs
  rename_i xs0 ho
  split at hrs
  · cases hrs
  rename_i ds e1 h1
  split at hrs
  · cases hrs
  rename_i xs ho1
  by_cases hf : few xs = true
  case neg =>
    rw [if_neg hf] at hrs
    cases hrs
  rw [if_pos hf] at hrs
  split at hrs
  · cases hrs
  rename_i ys hF
  obtain ⟨e2, hput, rfl⟩ := Option.map_eq_some_iff.mp hrs
  obtain ⟨s0, i0, o0⟩ := ownL_some ho
  obtain ⟨s1, i1, o1⟩ := ownL_some ho1
  obtain ⟨p, us0, k1, _, k3', _⟩ := own_at a i0 o0
  refine ⟨.ref p, k1, .inl ⟨rfl, us0, sq_of k3'⟩, h W hW σ e B H a ds e1 h1 _ fun vs B1 H1 a1 g1 d1 => ?_⟩
  obtain ⟨p', us, k2, k3, k4, k5⟩ := own_at a1 i1 o1
  rw [k1] at k2
  cases k2
  rw [hW] at k5
  have hl : us.length < 90000 := by
    rw [DpAll.length k5]
    exact of_decide_eq_true hf
  refine hr B1 H1 p us vs xs ds ys a1.ex k3 k4 k5 d1 hl hF _ fun ws hws => ?_
  obtain ⟨a2, g2⟩ := at_put a1 hput k1 (hW ▸ hws)
  exact q σ B1 _ a2 ((a.goM g1).trans g2)
def appF (xs ds : List PyData) : Option (List PyData) := match ds with
  | [d] => some (xs ++ [d])
  | _ => none
def extF (xs ds : List PyData) : Option (List PyData) := match ds with
  | [.list ys] => if ys.length < 9000 then some (xs ++ ys) else none
  | [.tuple ys] => if ys.length < 9000 then some (xs ++ ys) else none
  | _ => none
def insF (xs ds : List PyData) : Option (List PyData) := match ds with
  | [.int k, d] => if 0 ≤ k ∧ k < 1000000 then some (xs.take k.toNat ++ [d] ++ xs.drop k.toNat) else none
  | _ => none
theorem mf_app : MtF K rAppend appF := fun B H p us vs xs ds ys x hB hH hu hv hl hF Q q => by
  unfold appF at hF
  split at hF
  · cases hF
    cases hv with
    | cons h1 h2 =>
      cases h2
      exact ⟨p, us, _, rfl, rfl, hH, sz_lt (by omega), q _ (hu.append (.one h1))⟩
  · cases hF
def rExtU (K : PySem.W.Frag) : V → List V → Hp → VK → Prop := fun x vs H Q => ∃ l b xs zs, x = .ref l ∧ vs = [.ref b] ∧ H l = some (.lst xs) ∧ (SqT K H b zs ∨ H b = some (.lst zs)) ∧ xs.length + zs.length ≤ sizeLine ∧ Q .non (upd H l (.lst (xs ++ zs)))
theorem mt_extU {X : Cx} : MtM X "list.extend" (rExtU X.K) := fun pins s σ H x vs v us Q I rx rv h => by
  obtain ⟨l, b, xs, zs, h1, h2, h3, h4, h5, h6⟩ := h
  rcases h4 with h4 | h4
  · exact mt_extA pins s σ H x vs v us Q I rx rv ⟨l, b, xs, zs, h1, h2, h3, h4, h5, h6⟩
  · exact mt_extend pins s σ H x vs v us Q I rx rv ⟨l, b, xs, zs, h1, h2, h3, h4, h5, h6⟩
def rInsU : V → List V → Hp → VK → Prop := fun x vs H Q => ∃ (l : Addr) (xs : List V) (i : Int) (y : V), x = .ref l ∧ vs = [.int i, y] ∧ H l = some (.lst xs) ∧ xs.length < sizeLine ∧ 0 ≤ i ∧ i < 2 ^ 63 ∧
    Q .non (upd H l (.lst (xs.take i.toNat ++ [y] ++ xs.drop i.toNat)))
theorem mt_insU {X : Cx} : MtR X "list.insert" rInsU := mt_insert
theorem mf_ins : MtF K rInsU insF := fun B H p us vs xs ds ys x hB hH hu hv hl hF Q q => by
  unfold insF at hF
  split at hF
  · rename_i k d
    split at hF
    · rename_i hk
      cases hF
      cases hv with
      | cons h1 h2 =>
        cases h2 with
        | cons h2 h3 =>
          cases h3
          have bg : (1000000 : Int) < 2 ^ 63 := by decide
          refine ⟨p, us, k, _, rfl, by rw [h1.int_of], hH, sz_lt (by omega), hk.1, by omega, q _ (((hu.take _).append (.one h2)).append (hu.drop _))⟩
    · cases hF
  · cases hF
/-- name.extend(a new list): the list display or comprehension is made, then taken over -/
def sExtL (i : Nat) (fl : Dn (List PyData)) : Ds := fun e => match ownL e i with
  | none => none
  | some _ => match fl e with
    | none => none
    | some (ys, e1) => match ownL e1 i with
      | none => none
      | some xs => if (few xs && decide (ys.length < 9000)) = true then (putL e1 i (xs ++ ys)).map .nx else none
theorem ss_extL {i : Nat} (h : SL K te fl) : SS K (tDrop (tBM K "list" (rExtU K) (tVar i) (tCons te tNil))) (sExtL i fl) := fun W hW σ e B H a rs hrs D q => by
  unfold sExtL at hrs
  split at hrs
  · cases hrs
  rename_i xs0 ho
  split at hrs
  · cases hrs
  rename_i ys e1 h1
  split at hrs
  · cases hrs
  rename_i xs ho1
  by_cases hf : (few xs && decide (ys.length < 9000)) = true
  case neg =>
    rw [if_neg hf] at hrs
    cases hrs
  rw [if_pos hf] at hrs
  rw [Bool.and_eq_true] at hf
  obtain ⟨e2, hput, rfl⟩ := Option.map_eq_some_iff.mp hrs
  obtain ⟨s0, i0, o0⟩ := ownL_some ho
  obtain ⟨s1, i1, o1⟩ := ownL_some ho1
  obtain ⟨p, us0, k1, _, k3', _⟩ := own_at a i0 o0
  refine ⟨.ref p, k1, .inl ⟨rfl, us0, sq_of k3'⟩, h W hW σ e B H a ys e1 h1 _ fun r vs B1 H1 a1 g1 r0 hr hB1 d1 => ?_⟩
  obtain ⟨p', us, k2, k3, k4, k5⟩ := own_at a1 i1 o1
  rw [k1] at k2
  cases k2
  rw [hW] at k5
  have h1' := of_decide_eq_true hf.1
  have h2' := of_decide_eq_true hf.2
  refine ⟨p, r, us, vs, rfl, rfl, k4, .inr hr, sz_of (by rw [DpAll.length k5, DpAll.length d1]; omega), ?_⟩
  obtain ⟨a2, g2⟩ := at_put a1 hput k1 (hW ▸ k5.append d1)
  exact q σ B1 _ a2 ((a.goM g1).trans g2)
/-- name.extend(a tuple) -/
def extT (xs ds : List PyData) : Option (List PyData) := match ds with
  | [.tuple ys] => if ys.length < 9000 then some (xs ++ ys) else none
  | _ => none
theorem mf_extT : MtF K (rExtU K) extT := fun B H p us vs xs ds ys x hB hH hu hv hl hF Q q => by
  unfold extT at hF
  split at hF
  · rename_i zs
    split at hF
    · rename_i hz
      cases hF
      cases hv with
      | cons h1 h2 =>
        cases h2
        obtain ⟨b, ws, rfl, k1, k2⟩ := h1.tup_of
        exact ⟨p, b, us, ws, rfl, rfl, hH, .inl (ex_t x k1), sz_of (by rw [DpAll.length k2]; omega), q _ (hu.append k2)⟩
    · cases hF
  · cases hF

/-! ### stores -/
/-- name[k] = v -/
def sSetIx (i : Nat) (fv fk : Dn PyData) : Ds := fun e => match fv e with
  | none => none
  | some (d, e1) => match ownL e1 i with
    | none => none
    | some _ => match fk e1 with
      | none => none
      | some (y, e2) => match ownL e2 i with
        | none => none
        | some xs => match y with
          | .int k => match ixN xs.length k with
            | some j => (putL e2 i (xs.set j d)).map .nx
            | none => none
          | _ => none
theorem dpa_set {H : Hp} {v : V} {d : PyData} (hv : Dp K H v d) : ∀ {xs : List V} {ds : List PyData} (j : Nat), DpAll K H xs ds → DpAll K H (xs.set j v) (ds.set j d)
  | _, _, _, .nil => .nil
  | _, _, 0, .cons _ h2 => .cons hv h2
  | _, _, j + 1, .cons h1 h2 => .cons h1 (dpa_set hv j h2)
theorem ss_setIx {i : Nat} (hv : SE K te f) (hk : SE K tb g) : SS K (tAsg te (gSub (tVar i) tb rSetL)) (sSetIx i f g) := fun W hW σ e B H a rs hrs D q => by
  unfold sSetIx at hrs
  split at hrs
  · cases hrs
  rename_i d e1 h1
  split at hrs
  · cases hrs
  rename_i xs0 ho
  split at hrs
  · cases hrs
  rename_i y e2 h2
  split at hrs
  · cases hrs
  rename_i xs ho2
  split at hrs
  · rename_i k
    split at hrs
    · rename_i j hj
      obtain ⟨e3, hput, rfl⟩ := Option.map_eq_some_iff.mp hrs
      obtain ⟨s0, i0, o0⟩ := ownL_some ho
      obtain ⟨s1, i1, o1⟩ := ownL_some ho2
      refine hv W hW σ e B H a d e1 h1 _ fun v B1 H1 a1 g1 d1 => ?_
      obtain ⟨p, us0, k1, _⟩ := own_at a1 i0 o0
      refine ⟨.ref p, k1, hk W hW σ e1 B1 H1 a1 _ e2 h2 _ fun w B2 H2 a2 g2 d2 => ?_⟩
      obtain ⟨p', us, k2, k3, k4, k5⟩ := own_at a2 i1 o1
      rw [k1] at k2
      cases k2
      rw [hW] at k5
      obtain ⟨a3, g3⟩ := at_put a2 hput k1 (hW ▸ dpa_set (dp_mono g2.go.hg d1) j k5)
      exact ⟨p, us, k, j, rfl, d2.int_of, k4, by rw [DpAll.length k5]; exact hj, q σ B2 _ a3 (((a.goM g1).trans (a1.goM g2)).trans g3)⟩
    · cases hrs
  · cases hrs
/-- name[:k] = a new list -/
def sSetHead (i : Nat) (fv : Dn (List PyData)) (fu : Dn (Option Int)) : Ds := fun e => match fv e with
  | none => none
  | some (ys, e1) => match ownL e1 i with
    | none => none
    | some _ => match fu e1 with
      | none => none
      | some (o, e2) => match ownL e2 i with
        | none => none
        | some xs => match o with
          | some k => if (decide (0 ≤ k ∧ k ≤ xs.length) && decide (xs.length + ys.length ≤ 90000)) = true then (putL e2 i (ys ++ xs.drop k.toNat)).map .nx else none
          | none => none
theorem ss_setHead {i : Nat} {th : TO} {fu : Dn (Option Int)} (hv : SL K te fl) (hk : SO K th fu) : SS K (tAsg te (gHead (tVar i) th)) (sSetHead i fl fu) := fun W hW σ e B H a rs hrs D q => by
  unfold sSetHead at hrs
  split at hrs
  · cases hrs
  rename_i ys e1 h1
  split at hrs
  · cases hrs
  rename_i xs0 ho
  split at hrs
  · cases hrs
  rename_i o e2 h2
  split at hrs
  · cases hrs
  rename_i xs ho2
  cases o with
  | none => cases hrs
  | some k =>
  replace hrs : (if (decide (0 ≤ k ∧ k ≤ xs.length) && decide (xs.length + ys.length ≤ 90000)) = true then (putL e2 i (ys ++ xs.drop k.toNat)).map .nx else none) = some rs := hrs
  by_cases hf : (decide (0 ≤ k ∧ k ≤ xs.length) && decide (xs.length + ys.length ≤ 90000)) = true
  case neg =>
    rw [if_neg hf] at hrs
    cases hrs
  rw [if_pos hf] at hrs
  rw [Bool.and_eq_true] at hf
  have f1 := of_decide_eq_true hf.1
  have f2 := of_decide_eq_true hf.2
  obtain ⟨e3, hput, rfl⟩ := Option.map_eq_some_iff.mp hrs
  obtain ⟨s0, i0, o0⟩ := ownL_some ho
  obtain ⟨s1, i1, o1⟩ := ownL_some ho2
  refine hv W hW σ e B H a ys e1 h1 _ fun r vs B1 H1 a1 g1 r0 hr hB1 d1 => ?_
  obtain ⟨p, us0, k1, _, k3', _⟩ := own_at a1 i0 o0
  have nor : ¬ Ow σ e1 r := fun z => (a.ow (g1.ow r z)).2.1 r0
  have pr : p ≠ r := fun z => nor ⟨i, s0, xs0, i0, o0, by rw [← z]; exact k1⟩
  refine ⟨.ref p, k1, hk W hW σ e1 B1 H1 a1 _ e2 h2 _ fun B2 H2 a2 g2 => ?_⟩
  obtain ⟨p', us, k2, k3, k4, k5⟩ := own_at a2 i1 o1
  rw [k1] at k2
  cases k2
  rw [hW] at k5
  have hr2 := g2.go.fr r _ nor hr
  have hd : DpAll K B2 (vs ++ us.drop k.toNat) (ys ++ xs.drop k.toNat) := (dpa_mono g2.go.hg d1).append (k5.drop _)
  obtain ⟨a3, g3⟩ := at_put a2 hput k1 (hW ▸ hd)
  have l1 := DpAll.length k5
  have l2 := DpAll.length d1
  exact ⟨p, r, us, vs, k.toNat, rfl, congrArg some (by omega), rfl, k4, hr2, pr, by omega, sz_of (by omega), q σ B2 _ a3 (((a.goM g1).trans (a1.goM g2)).trans g3)⟩
/-- name += e, ints -/
def sAug (i : Nat) (F : Int → Int → Int) (fv : Dn PyData) : Ds := fun e => match e[i]? with
  | some (.d (.int m)) => match fv e with
    | some (.int n, e1) => (setD i (.int (F m n)) e1).map .nx
    | _ => none
  | _ => none
theorem ss_aug {i : Nat} {F : Int → Int → Int} (h : SE K te f) : SS K (tAug i te (ipI F)) (sAug i F f) := fun W hW σ e B H a rs hrs D q => by
  unfold sAug at hrs
  split at hrs
  · rename_i m hm
    split at hrs
    · rename_i n e1 h1
      obtain ⟨e2, h2, rfl⟩ := Option.map_eq_some_iff.mp hrs
      unfold setD at h2
      split at h2
      · rename_i hc
        cases h2
        obtain ⟨v, k1, k2⟩ := a.dat i _ hm
        have ev := k2.int_of
        subst ev
        refine ⟨_, k1, h W hW σ e B H a _ e1 h1 _ fun w B1 H1 a1 g1 d1 => ⟨m, n, rfl, d1.int_of, q _ B1 H1 (a1.setD (can_pn a1 hc) (.int _)) (a.goM g1)⟩⟩
      · cases h2
    · cases hrs
  · cases hrs
/-- a new list times an int -/
def dRep (fl : Dn (List PyData)) (g : Dn PyData) : Dn (List PyData) := dBind fl fun xs => dBind g fun y => match y with
  | .int k => if -1000 ≤ k ∧ k ≤ 1000 ∧ xs.length ≤ 60 then dK (List.replicate k.toNat xs).flatten else fun _ => none
  | _ => fun _ => none
theorem sl_rep (ha : SL K ta fl) (hb : SE K tb g) : SL K (tOp rRep ta tb) (dRep fl g) := fun W hW σ e B H a d e' h Q q => by
  obtain ⟨xs, e1, h1, h2⟩ := dBind_some h
  obtain ⟨y, e2, h3, h4⟩ := dBind_some h2
  split at h4
  · rename_i k
    split at h4
    · rename_i hk
      obtain ⟨rfl, rfl⟩ := dK_some h4
      refine ha W hW σ e B H a xs e1 h1 _ fun p us B1 H1 a1 g1 p0 hp pB d1 => ?_
      have nor : ¬ Ow σ e1 p := fun z => (a.ow (g1.ow p z)).2.1 p0
      refine hb W hW σ e1 B1 H1 a1 _ e' h3 _ fun w B2 H2 a2 g2 d2 => ?_
      have bg : (1000000 : Int) < 2 ^ 63 := by decide
      have hl := DpAll.length d1
      have hm : us.length * k.toNat ≤ 60 * 1000 := Nat.mul_le_mul (by omega) (by omega)
      refine ⟨p, k, us, rfl, d2.int_of, g2.go.fr p _ nor hp, by omega, by omega, Nat.le_trans hm (by decide), fun r hr => ?_⟩
      have gr : Gr B2 H2 B2 (upd H2 r (.lst (List.replicate k.toNat us).flatten)) := Gr.mut a2.ex hr
      exact q r _ _ _ (a2.gr gr) ((g1.trans g2).trans (gx_gr gr)) (g1.go.dm r (g2.go.dm r hr)) upd_same (fresh_back a2.ex hr) (dpa_rep _ (dpa_mono g2.go.hg d1))
    · cases h4
  · cases h4
/-- list(range(i, j)), list(range(j)) -/
def dLRg2 (f g : Dn PyData) : Dn (List PyData) := dBind f fun x => dBind g fun y => match x, y with
  | .int i, .int j => if 0 ≤ i ∧ i ≤ 1000000 ∧ 0 ≤ j ∧ j ≤ 1000000 then dK (rgD i (j - i).toNat) else fun _ => none
  | _, _ => fun _ => none
theorem dpa_rg (i : Int) (n : Nat) (H : Hp) : DpAll K H ((List.range n).map fun m => V.int (i + (m : Nat))) (rgD i n) := by
  unfold rgD
  have all : ∀ l : List Nat, DpAll K H (l.map fun m => V.int (i + (m : Nat))) (l.map fun m => PyData.int (i + (m : Nat))) := fun l => by
    induction l with
    | nil => exact .nil
    | cons a l ih => exact .cons (.int _) ih
  exact all _
theorem sl_lrg2 (ha : SE K ta f) (hb : SE K tb g) : SL K (tLstRg (tRg2 ta tb)) (dLRg2 f g) := fun W hW σ e B H a d e' h Q q => by
  obtain ⟨x, e1, h1, h2⟩ := dBind_some h
  obtain ⟨y, e2, h3, h4⟩ := dBind_some h2
  split at h4
  · rename_i i j
    split at h4
    · rename_i hk
      obtain ⟨rfl, rfl⟩ := dK_some h4
      refine ha W hW σ e B H a _ e1 h1 _ fun v B1 H1 a1 g1 d1 => hb W hW σ e1 B1 H1 a1 _ e' h3 _ fun w B2 H2 a2 g2 d2 => ⟨i, j, d1.int_of, d2.int_of, .of_le hk.1 (by omega) (by omega) hk.2.2.1, fun r hr => ?_⟩
      have gr : Gr B2 H2 B2 (upd H2 r (.lst (rgV i j))) := Gr.mut a2.ex hr
      exact q r _ _ _ (a2.gr gr) ((g1.trans g2).trans (gx_gr gr)) (g1.go.dm r (g2.go.dm r hr)) upd_same (fresh_back a2.ex hr) (dpa_rg i _ B2)
    · cases h4
  · cases h4
def dLRg1 (f : Dn PyData) : Dn (List PyData) := dBind f fun x => match x with
  | .int j => if 0 ≤ j ∧ j ≤ 1000000 then dK (rgD 0 j.toNat) else fun _ => none
  | _ => fun _ => none
theorem sl_lrg1 (ha : SE K ta f) : SL K (tLstRg (tRg1 ta)) (dLRg1 f) := fun W hW σ e B H a d e' h Q q => by
  obtain ⟨x, e1, h1, h2⟩ := dBind_some h
  split at h2
  · rename_i j
    split at h2
    · rename_i hk
      obtain ⟨rfl, rfl⟩ := dK_some h2
      refine ha W hW σ e B H a _ e' h1 _ fun v B1 H1 a1 g1 d1 => ⟨j, d1.int_of, .of_le (Int.le_refl 0) (by omega) (by omega) hk.1, fun r hr => ?_⟩
      have gr : Gr B1 H1 B1 (upd H1 r (.lst (rgV 0 j))) := Gr.mut a1.ex hr
      have hd : DpAll K B1 (rgV 0 j) (rgD 0 j.toNat) := by
        have := dpa_rg (K := K) 0 (j - 0).toNat B1
        rw [Int.sub_zero] at this
        rw [show rgV 0 j = (List.range j.toNat).map fun m => V.int (0 + (m : Nat)) by
          show (List.range (j - 0).toNat).map (fun m => V.int (0 + (m : Nat))) = _
          rw [Int.sub_zero]]
        exact this
      exact q r _ _ _ (a1.gr gr) (g1.trans (gx_gr gr)) (g1.go.dm r hr) upd_same (fresh_back a1.ex hr) hd
    · cases h2
  · cases h2
end
end Fd
end

section
set_option Elab.async false
set_option linter.all false
set_option maxRecDepth 100000
set_option maxHeartbeats 1000000
/-! Walks by meaning 9: zip, several targets of both kinds, the law. -/
namespace Fd
open PySem PySem.Spec PyProof.Rows L2 Evl Tb

theorem bb_sorted : bootBuiltins "sorted" = some (.builtin "sorted") := by decide +kernel
theorem bb_all : bootBuiltins "all" = some (.builtin "all") := by decide +kernel
theorem bb_any : bootBuiltins "any" = some (.builtin "any") := by decide +kernel
theorem bb_repr : bootBuiltins "repr" = some (.builtin "repr") := by decide +kernel
/-- the built-in names that a module does not name anew -/
structure Bm (mg : Str → Option Value) : Prop where
  int : mg "int" = none
  bool : mg "bool" = none
  str : mg "str" = none
  list : mg "list" = none
  tuple : mg "tuple" = none
  dict : mg "dict" = none
  set : mg "set" = none
  len : mg "len" = none
  max : mg "max" = none
  min : mg "min" = none
  abs : mg "abs" = none
  sum : mg "sum" = none
  all : mg "all" = none
  any : mg "any" = none
  repr : mg "repr" = none
  sorted : mg "sorted" = none
  zip : mg "zip" = none
  isinstance : mg "isinstance" = none
  enumerate : mg "enumerate" = none
  reversed : mg "reversed" = none
  range : mg "range" = none

def zipD : List PyData → List PyData → List PyData := List.zipWith fun x y => .tuple [x, y]
def dZip (f : Dn (List PyData)) : Dn (List PyData) := dBind f fun ds => match ds with
  | [.list xs, .list ys] => dK (zipD xs ys)
  | _ => fun _ => none
section
variable {K : PySem.W.Frag} {ta tb te : TE} {tr : TA} {f g : Dn PyData} {fl fk : Dn (List PyData)} {B : Hp}
theorem zip_get (xs ys : List PyData) (i : Nat) (d : PyData) (h : (zipD xs ys)[i]? = some d) : ∃ x y, xs[i]? = some x ∧ ys[i]? = some y ∧ d = .tuple [x, y] := by
  unfold zipD at h
  rw [List.getElem?_zipWith] at h
  cases hx : xs[i]? with
  | none =>
    rw [hx] at h
    cases h
  | some x =>
    cases hy : ys[i]? with
    | none =>
      rw [hx, hy] at h
      cases h
    | some y =>
      rw [hx, hy] at h
      cases h
      exact ⟨x, y, rfl, rfl, rfl⟩
theorem si_zip (h : SA K tr fl) : SI K (iZip K tr) (dZip fl) := fun W hW σ e B H a ds e' h' R q => by
  obtain ⟨d, e1, h1, h2⟩ := dBind_some h'
  split at h2
  · rename_i xs ys
    obtain ⟨rfl, rfl⟩ := dK_some h2
    refine h W hW σ e B H a _ e' h1 _ fun vs B1 H1 a1 g1 d1 => ?_
    cases d1 with
    | cons hv hr =>
      cases hr with
      | cons hv2 hr =>
        cases hr
        obtain ⟨p, us, rfl, k1, k2⟩ := hv.lst_of
        obtain ⟨p2, ws, rfl, k3, k4⟩ := hv2.lst_of
        refine ⟨p, p2, us, ws, rfl, ex_l a1.ex k1, ex_l a1.ex k3, q _ B1 H1 a1 g1 (wk_of (walk_zip rfl) ?_ (fun H2 e2 => ⟨ex_l e2 k1, ex_l e2 k3⟩) fun i d B2 H2 x H3 e2 e3 hi y => ?_)⟩
        · unfold zipD
          rw [List.length_zipWith, DpAll.length k2, DpAll.length k4]
        · obtain ⟨T, x', y', rfl, hT, rfl, hx, hy⟩ := y
          obtain ⟨dx, dy, m1, m2, rfl⟩ := zip_get xs ys i d hi
          obtain ⟨d1, n1, n2⟩ := k2.get hx
          obtain ⟨d2, n3, n4⟩ := k4.get hy
          rw [m1] at n1
          rw [m2] at n3
          cases n1
          cases n3
          have gr : Gr B2 H2 (upd B2 T (.tup [x', y'])) (upd H2 T (.tup [x', y'])) := Gr.new e3 hT
          exact ⟨_, gr, .tup (st_of upd_same) (.cons (dp_mono (e2.trans gr.hg) n2) (.cons (dp_mono (e2.trans gr.hg) n4) .nil))⟩
  · cases h2

/-! ### a, b = data, a new list -/
inductive Ar where
  | d (x : PyData)
  | l (xs : List PyData)
/-- values at hand: data is known, each new list stands apart, where ok lets it -/
def HvAll (K : PySem.W.Frag) (B H : Hp) : (Addr → Prop) → List V → List Ar → Prop
  | _, [], [] => True
  | ok, v :: vs, .d x :: as => Dp K B v x ∧ HvAll K B H ok vs as
  | ok, v :: vs, .l xs :: as => ∃ (p : Addr) (us : List V), v = V.ref p ∧ ok p ∧ H p = some (.lst us) ∧ B p = none ∧ DpAll K B us xs ∧ HvAll K B H (fun b => ok b ∧ b ≠ p) vs as
  | _, _, _ => False
theorem hv_mono {B H : Hp} : ∀ {vs : List V} {as : List Ar} {ok ok' : Addr → Prop}, (∀ b, ok b → ok' b) → HvAll K B H ok vs as → HvAll K B H ok' vs as
  | [], [], _, _, _, _ => trivial
  | v :: vs, .d x :: as, _, _, h, ⟨h1, h2⟩ => ⟨h1, hv_mono h h2⟩
  | v :: vs, .l xs :: as, _, _, h, ⟨p, us, h1, h2, h3, h4, h5, h6⟩ => ⟨p, us, h1, h p h2, h3, h4, h5, hv_mono (fun b hb => ⟨h b hb.1, hb.2⟩) h6⟩
  | [], _ :: _, _, _, _, h => h.elim
  | _ :: _, [], _, _, _, h => h.elim
def SX (K : PySem.W.Frag) (ta : TA) (f : Dn (List Ar)) : Prop := ∀ (W : Wo), W.K = K → ∀ (σ : L2.St) (e : En) (B H : Hp), At W σ e B H → ∀ as e', f e = some (as, e') →
  ∀ Q : List V → Hp → Prop, (∀ vs B' H', At W σ e' B' H' → Gx σ e B H e' B' H' → HvAll K B' H' (fun b => H b = none) vs as → Q vs H') → ta σ H Q
def xNil : Dn (List Ar) := dK []
def xCons (f : Dn PyData) (g : Dn (List Ar)) : Dn (List Ar) := dBind f fun x => dBind g fun xs => dK (.d x :: xs)
def xConsL (f : Dn (List PyData)) (g : Dn (List Ar)) : Dn (List Ar) := dBind f fun x => dBind g fun xs => dK (.l x :: xs)
theorem sx_nil : SX K tNil xNil := fun W hW σ e B H a as e' h Q q => by
  obtain ⟨rfl, rfl⟩ := dK_some h
  exact q [] B H a (.refl _ _ _ _) trivial
theorem sx_cons {tr : TA} {k : Dn (List Ar)} (h : SE K te f) (hr : SX K tr k) : SX K (tCons te tr) (xCons f k) := fun W hW σ e B H a as e' h' Q q => by
  obtain ⟨x, e1, h1, h2⟩ := dBind_some h'
  obtain ⟨xs, e2, h3, h4⟩ := dBind_some h2
  obtain ⟨rfl, rfl⟩ := dK_some h4
  refine h W hW σ e B H a x e1 h1 _ fun v B1 H1 a1 g1 d1 => hr W hW σ e1 B1 H1 a1 xs e' h3 _ fun vs B2 H2 a2 g2 d2 => ?_
  exact q (v :: vs) B2 H2 a2 (g1.trans g2) ⟨dp_mono g2.go.hg d1, hv_mono (fun b hb => g1.go.dm b hb) d2⟩
theorem sx_consL {tr : TA} {k : Dn (List Ar)} (h : SL K te fl) (hr : SX K tr k) : SX K (tCons te tr) (xConsL fl k) := fun W hW σ e B H a as e' h' Q q => by
  obtain ⟨x, e1, h1, h2⟩ := dBind_some h'
  obtain ⟨xs, e2, h3, h4⟩ := dBind_some h2
  obtain ⟨rfl, rfl⟩ := dK_some h4
  refine h W hW σ e B H a x e1 h1 _ fun r rs B1 H1 a1 g1 r0 hr1 rB d1 => hr W hW σ e1 B1 H1 a1 xs e' h3 _ fun vs B2 H2 a2 g2 d2 => ?_
  have nor : ¬ Ow σ e1 r := fun z => (a.ow (g1.ow r z)).2.1 r0
  have ner : H1 r ≠ none := by rw [hr1]; exact fun z => nomatch z
  exact q (.ref r :: vs) B2 H2 a2 (g1.trans g2) ⟨r, rs, rfl, r0, g2.go.fr r _ nor hr1, g2.go.sp r nor rB ner, dpa_mono g2.go.hg d1, hv_mono (fun b hb => ⟨g1.go.dm b hb, fun z => by subst z; exact ner hb⟩) d2⟩
def sSetsX : List Nat → List Ar → En → Option En
  | [], [], e => some e
  | i :: is, .d d :: ds, e => match setD i d e with
    | some e1 => sSetsX is ds e1
    | none => none
  | i :: is, .l d :: ds, e => match setO i d e with
    | some e1 => sSetsX is ds e1
    | none => none
  | _, _, _ => none
def sParX (f : Dn (List Ar)) (is : List Nat) : Ds := fun e => match f e with
  | some (ds, e1) => (sSetsX is ds e1).map .nx
  | none => none
theorem ow_setO {σ : L2.St} {e : En} {i : Nat} {p b : Addr} {xs : List PyData} (h : Ow (σ.set i (some (.ref p))) (e.set i (.o xs)) b) : Ow σ e b ∨ b = p := by
  obtain ⟨j, s, ys, h1, h2, h3⟩ := h
  rcases set_cases h1 with ⟨rfl, rfl, hl⟩ | ⟨c, h⟩
  · have hl2 : j < (σ.set j (some (V.ref p))).length := (List.getElem?_eq_some_iff.mp h3).1
    rw [List.length_set] at hl2
    rw [List.getElem?_set_self hl2] at h3
    cases h3
    exact .inr rfl
  · rw [List.getElem?_set_ne (Ne.symm c)] at h3
    exact .inl ⟨j, s, ys, h, h2, h3⟩
theorem setsX_ok {W : Wo} : ∀ (is : List Nat) (vs : List V) (ds : List Ar) (σ : L2.St) (e e' : En) (B H : Hp) (ok : Addr → Prop), At W σ e B H → HvAll W.K B H ok vs ds → (∀ b, ok b → W.M b ∧ ¬ Ow σ e b) →
    sSetsX is ds e = some e' → is.length = vs.length ∧ ∃ σ', σ' = (is.zip vs).foldl (fun s p => s.set p.1 (some p.2)) σ ∧ At W σ' e' B H
  | [], [], [], σ, e, e', B, H, ok, a, _, _, h => by
    cases h
    exact ⟨rfl, σ, rfl, a⟩
  | i :: is, v :: vs, .d d :: ds, σ, e, e', B, H, ok, a, ⟨hv, ha⟩, hM, h => by
    unfold sSetsX at h
    split at h
    · rename_i e1 h1
      unfold setD at h1
      split at h1
      · rename_i c
        cases h1
        obtain ⟨h0, σ', h2, h3⟩ := setsX_ok is vs ds _ _ e' B H ok (a.setD (can_pn a c) hv) ha (fun b hb => ⟨(hM b hb).1, fun z => (hM b hb).2 (ow_setD z)⟩) h
        exact ⟨congrArg Nat.succ h0, σ', h2, h3⟩
      · cases h1
    · cases h
  | i :: is, v :: vs, .l d :: ds, σ, e, e', B, H, ok, a, ⟨p, us, hv, k1, k2, k3, k4, ha⟩, hM, h => by
    unfold sSetsX at h
    split at h
    · rename_i e1 h1
      unfold setO at h1
      split at h1
      · rename_i c
        cases h1
        subst hv
        obtain ⟨h0, σ', h2, h3⟩ := setsX_ok is vs ds _ _ e' B H _ (a.setO (can_pn a c) (hM p k1).2 (hM p k1).1 k3 k2 k4) ha (fun b hb => ⟨(hM b hb.1).1, fun z => (ow_setO z).elim (hM b hb.1).2 hb.2⟩) h
        exact ⟨congrArg Nat.succ h0, σ', h2, h3⟩
      · cases h1
    · cases h
  | [], _, _ :: _, σ, e, e', B, H, ok, a, hd, _, h => by cases h
  | _ :: _, _, [], σ, e, e', B, H, ok, a, hd, _, h => by cases h
  | [], _ :: _, [], σ, e, e', B, H, ok, a, hd, _, h => hd.elim
  | _ :: _, [], _ :: _, σ, e, e', B, H, ok, a, hd, _, h => hd.elim
theorem ss_parX {i j : Nat} {fx : Dn (List Ar)} (h : SX K tr fx) : SS K (tPar i j tr) (sParX fx [i, j]) := fun W hW σ e B H a r hr D q => by
  unfold sParX at hr
  split at hr
  · rename_i ds e1 h1
    obtain ⟨e2, h2, rfl⟩ := Option.map_eq_some_iff.mp hr
    refine h W hW σ e B H a ds e1 h1 _ fun vs B1 H1 a1 g1 d1 => ?_
    obtain ⟨h0, _, rfl, k2⟩ := setsX_ok [i, j] vs ds σ e1 e2 B1 H1 _ a1 (hW ▸ d1) (fun b hb => ⟨a.nm b hb, fun z => (a.ow (g1.ow b z)).2.1 hb⟩) h2
    match vs, h0 with
    | [v, w], _ => exact ⟨v, w, rfl, q _ B1 H1 k2 (a.goM g1)⟩
  · cases hr
theorem ss_parX3 {i j l : Nat} {fx : Dn (List Ar)} (h : SX K tr fx) : SS K (tPar3 i j l tr) (sParX fx [i, j, l]) := fun W hW σ e B H a r hr D q => by
  unfold sParX at hr
  split at hr
  · rename_i ds e1 h1
    obtain ⟨e2, h2, rfl⟩ := Option.map_eq_some_iff.mp hr
    refine h W hW σ e B H a ds e1 h1 _ fun vs B1 H1 a1 g1 d1 => ?_
    obtain ⟨h0, _, rfl, k2⟩ := setsX_ok [i, j, l] vs ds σ e1 e2 B1 H1 _ a1 (hW ▸ d1) (fun b hb => ⟨a.nm b hb, fun z => (a.ow (g1.ow b z)).2.1 hb⟩) h2
    match vs, h0 with
    | [v, w, z], _ => exact ⟨v, w, z, rfl, q _ B1 H1 k2 (a.goM g1)⟩
  · cases hr
/-! ### a new list that is handed over to be changed -/
theorem At.stepN {W : Wo} {σ : L2.St} {e : En} {B H : Hp} (a : At W σ e B H) {p : Addr} {B' H' : Hp} (no : ¬ Ow σ e p) (g : Go (fun b => b = p) B H B' H') (x : Ex B' H') : At W σ e B' H' where
  ex := x
  nm := fun b hb => a.nm b (g.dm b hb)
  len := a.len
  dat := fun i y h => by
    obtain ⟨v, k1, k2⟩ := a.dat i y h
    exact ⟨v, k1, dp_mono g.hg k2⟩
  own := fun j t zs h h2 => by
    obtain ⟨q, us', k1, k2, k3, k4, k5⟩ := a.own j t zs h h2
    have qp : ¬ q = p := fun z => by
      subst z
      exact no ⟨j, t, zs, h, h2, k1⟩
    exact ⟨q, us', k1, k2, g.sp q qp k3 (by rw [k4]; exact fun z => nomatch z), g.fr q _ qp k4, dpa_mono g.hg k5⟩
  sep := a.sep
  pin := a.pin
def dCallN {α : Type} (n : Nat) (F : List PyData → List PyData → Option (α × List PyData)) (fx fl : Dn (List PyData)) : Dn α := dBind fx fun xs => dBind fl fun ds => if ds.length + 1 = n then dLift ((F xs ds).map Prod.fst) else fun _ => none
theorem go_new {σ : L2.St} {e : En} {p : Addr} {B0 H0 B H B' H' : Hp} (g0 : Go (Ow σ e) B0 H0 B H) (p0 : H0 p = none) (g : Go (fun b => b = p) B H B' H') : Go (Ow σ e) B0 H0 B' H' :=
  ⟨g0.hg.trans g.hg, fun b o hb h => g.fr b o (fun z => by
    subst z
    rw [p0] at h
    cases h) (g0.fr b o hb h), fun b h => g0.dm b (g.dm b h), fun b hb h1 h2 => g.sp b (fun z => by
    subst z
    exact h2 p0) (g0.sp b hb h1 h2) fun z => h2 (g0.dm b z)⟩
theorem se_callN {n : Nat} {F : List PyData → List PyData → Option (PyData × List PyData)} {E : XK} (hx : SL K te fk) (h : SA K tr fl) : SE K (tCall (spM K n F) [] E (tCons te tr)) (dCallN n F fk fl) := fun W hW σ e B H a d e' h' Q q => by
  obtain ⟨xs, e1, h1, k1⟩ := dBind_some h'
  obtain ⟨ds, e2, h2, k2⟩ := dBind_some k1
  split at k2
  · rename_i hl
    obtain ⟨k3, rfl⟩ := dLift_some k2
    obtain ⟨⟨d', ys⟩, hF, rfl⟩ := Option.map_eq_some_iff.mp k3
    refine hx W hW σ e B H a xs e1 h1 _ fun p us B1 H1 a1 g1 p0 hp pB d1 => h W hW σ e1 B1 H1 a1 ds e' h2 _ fun vs B2 H2 a2 g2 d2 => ?_
    have nop : ¬ Ow σ e1 p := fun z => (a.ow (g1.ow p z)).2.1 p0
    refine ⟨B2, p, us, vs, xs, ds, d', ys, by rw [List.append_nil], a2.ex, g2.go.sp p nop pB (by rw [hp]; exact fun z => nomatch z), g2.go.fr p _ nop hp, dpa_mono g2.go.hg d1, hl, d2, hF, fun v us' B3 H3 g3 x3 _ _ _ dv => ?_⟩
    exact q v B3 H3 (a2.stepN (fun z => nop (g2.ow p z)) g3 x3) ⟨go_new (g1.trans g2).go p0 g3, (g1.trans g2).ow⟩ dv
  · cases k2
theorem sl_callN {n : Nat} {F : List PyData → List PyData → Option (List PyData × List PyData)} {E : XK} (hx : SL K te fk) (h : SA K tr fl) : SL K (tCall (spML K n F) [] E (tCons te tr)) (dCallN n F fk fl) := fun W hW σ e B H a d e' h' Q q => by
  obtain ⟨xs, e1, h1, k1⟩ := dBind_some h'
  obtain ⟨ds, e2, h2, k2⟩ := dBind_some k1
  split at k2
  · rename_i hl
    obtain ⟨k3, rfl⟩ := dLift_some k2
    obtain ⟨⟨d', ys⟩, hF, rfl⟩ := Option.map_eq_some_iff.mp k3
    refine hx W hW σ e B H a xs e1 h1 _ fun p us B1 H1 a1 g1 p0 hp pB d1 => h W hW σ e1 B1 H1 a1 ds e' h2 _ fun vs B2 H2 a2 g2 d2 => ?_
    have nop : ¬ Ow σ e1 p := fun z => (a.ow (g1.ow p z)).2.1 p0
    refine ⟨B2, p, us, vs, xs, ds, d', ys, by rw [List.append_nil], a2.ex, g2.go.sp p nop pB (by rw [hp]; exact fun z => nomatch z), g2.go.fr p _ nop hp, dpa_mono g2.go.hg d1, hl, d2, hF, fun r rs us' B3 H3 g3 x3 _ _ _ r0 hr rB rd => ?_⟩
    exact q r rs B3 H3 (a2.stepN (fun z => nop (g2.ow p z)) g3 x3) ⟨go_new (g1.trans g2).go p0 g3, (g1.trans g2).ow⟩ ((g1.trans g2).go.dm r r0) hr rB rd
  · cases k2
/-- the law: a script of at most 63 ints -/
def spLaw (K : PySem.W.Frag) : Sp := fun vs H Q _ => ∃ (a : Addr) (ns : List Int), vs = [V.ref a] ∧ SqL K H a (ns.map V.int) ∧ ns.length ≤ 63 ∧ ∀ H', Q (.bl true) H'
theorem body_law {t : TS} {F : Ds} {N : List Str} {n : Nat} {H : Hp} {vs : List V} {Q : VK} {E : XK} (h : SS K t F) (hn : N.length = 1 + n) (ht : ∀ ns : List Int, ns.length ≤ 63 → fnD n F [.list (ns.map .int)] = some (.bool true)) (hs : spLaw K vs H Q E) : t { nx := fun _ H' => Q .non H', rt := Q } (L2.start N vs) H := by
  obtain ⟨a, ns, rfl, hS, hl, q⟩ := hs
  refine body_F (E := E) h hn ⟨H, [.list (ns.map .int)], .bool true, Ex.refl H, rfl, .one (.lst hS (DpAll.of_ints ns)), ht ns hl, fun v B' H' g hv => ?_⟩
  rw [hv.bl_of]
  exact q H'
end
end Fd
end

section
set_option Elab.async false
set_option linter.all false
set_option maxRecDepth 100000
set_option maxHeartbeats 1000000
/-! Walks by meaning 10: the rules, the constants given. -/
namespace Fd
open PySem PySem.Spec PyProof.Rows L2 Evl Tb
section
variable {X : Cx} {K : PySem.W.Frag}
theorem ok_addU (h : X.K = K) : OpR X (binaryOp .Add) (rAddU K) := h ▸ op_addU
theorem ok_mulU (h : X.K = K) : OpR X (binaryOp .Mult) (rMulU K) := h ▸ op_mulU
theorem ok_eqD (h : X.K = K) (hu : X.A.units + 64 < cLine) : OpR X (compareOp .Eq) (rEqD K) := h ▸ op_eqD hu
theorem ok_neD (h : X.K = K) (hu : X.A.units + 64 < cLine) : OpR X (compareOp .NotEq) (rNeD K) := h ▸ op_neD hu
theorem ok_inD (h : X.K = K) (hu : X.A.units + 65 < cLine) : OpR X (compareOp .In) (rInD K) := h ▸ op_inD hu
theorem ok_notInD (h : X.K = K) (hu : X.A.units + 65 < cLine) : OpR X (compareOp .NotIn) (rNotInD K) := h ▸ op_notInD hu
theorem ixk_seq (h : X.K = K) : IxR X (rIx K) := h ▸ ix_seq
theorem slk_sliceU (h : X.K = K) : SlR X (rSlU K) := h ▸ sl_sliceU
theorem ck_lenU (h : X.K = K) : CallR X (.builtin "len") (rLenU K) := h ▸ call_lenU
theorem ck_tupU (h : X.K = K) : CallR X (.type "tuple") (rTupU K) := h ▸ call_tupU
theorem ck_lstU (h : X.K = K) : CallR X (.type "list") (rLstU K) := call_lstU h
theorem ck_sum (h : X.K = K) (hc : X.calm = true) : CallR X (.builtin "sum") (rSum K) := h ▸ cr_sum hc
theorem ck_max (h : X.K = K) (hc : X.calm = true) : CallR X (.builtin "max") (rMax K) := h ▸ cr_max hc
theorem ck_min (h : X.K = K) (hc : X.calm = true) : CallR X (.builtin "min") (rMin K) := h ▸ cr_min hc
theorem ck_all (h : X.K = K) (hc : X.calm = true) : CallR X (.builtin "all") (rAll K) := h ▸ cr_all hc
theorem ck_any (h : X.K = K) (hc : X.calm = true) : CallR X (.builtin "any") (rAny K) := h ▸ cr_any hc
theorem ck_sortedI (h : X.K = K) : CallR X (.builtin "sorted") (rSortedI K) := h ▸ cr_sortedI
theorem ck_maxDfU (h : X.K = K) (hc : X.calm = true) (hu : X.A.units + 64 < cLine) : CallRK X (.builtin "max") [Str.ofString "default"] (rMaxDfU K) := h ▸ cr_maxDfU hc hu
theorem ck_isi (h : X.K = K) : CallR X (.builtin "isinstance") (rIsi K) := h ▸ call_isi
theorem ck_isiT (h : X.K = K) : CallR X (.builtin "isinstance") (rIsiT K) := h ▸ call_isiT
theorem ptk_truU (h : X.K = K) {a : Expr} {ta : TE} (ha : PE X a ta) (he : ∀ whole, isTrue a X.env whole = (do let v ← whole; standAt a.pos; holding [v] (truthy v)) := by intro _; rfl) : PT X a (tTruU K ta) := h ▸ pt_truU ha he
theorem mk_extU (h : X.K = K) : MtM X "list.extend" (rExtU K) := h ▸ mt_extU
theorem pgk_row (h : X.K = K) {pos : Pos} {es : List Expr} {k : Nat} {t : TGs} {n : Nat} (hc : X.calm = true) (hg : PGs X es t)
    (hn : (assignEach es X.env).length = n := by rfl) (hst : (assignEach es X.env).findIdx? (·.1) = none := by rfl) : PG X (.Tuple es k pos) (gRow K n t) := h ▸ pg_row hc hg hn hst
theorem pik_row (h : X.K = K) {tg l : Expr} {tl : TE} (hl : PE X l tl) : PI X tg l (iRow K tl) := h ▸ pi_row hl
end
/-! ### a list of one's own that is compared -/
def isScal : PyData → Bool
  | .none => true
  | .bool _ => true
  | .int _ => true
  | .str _ => true
  | _ => false
theorem scal_dp {K : PySem.W.Frag} {B B' : Hp} {v : V} {d : PyData} (h : isScal d = true) (hd : Dp K B v d) : Dp K B' v d := by
  cases hd with
  | non => exact .non
  | bl b => exact .bl b
  | int i => exact .int i
  | str x => exact .str x
  | lst _ _ => cases h
  | tup _ _ => cases h
def dOpV (F : PyData → PyData → Option PyData) (i : Nat) (g : Dn PyData) : Dn PyData := fun e => match ownL e i with
  | none => dOp F (dVar i) g e
  | some _ => match g e with
    | none => none
    | some (y, e1) => match ownL e1 i with
      | none => none
      | some xs => match F (.list xs) y with
        | none => none
        | some z => if isScal z = true then some (z, e1) else none
def dOpW (F : PyData → PyData → Option PyData) (f : Dn PyData) (j : Nat) : Dn PyData := fun e => match f e with
  | none => none
  | some (x, e1) => match ownL e1 j with
    | none => dBind (dVar j) (fun y => dLift (F x y)) e1
    | some ys => match F x (.list ys) with
      | none => none
      | some z => if isScal z = true then some (z, e1) else none
section
variable {K : PySem.W.Frag} {ta tb : TE} {f g : Dn PyData} {r : R2} {F : PyData → PyData → Option PyData}
theorem gr_back {B H G H2 : Hp} {p : Addr} {us : List V} (x : Ex B H) (h : Gr (upd B p (.lst us)) H G H2) : Gr B H B H2 := .ex x h.h12
theorem ex_put {B H : Hp} {p : Addr} {us : List V} (x : Ex B H) (h : H p = some (.lst us)) : Ex (upd B p (.lst us)) H := fun b o hb => by
  by_cases c : b = p
  · subst c
    rw [upd_same] at hb
    cases hb
    exact h
  · rw [upd_ne c] at hb
    exact x b o hb
theorem se_opV {i : Nat} (hr : ∀ B x y z, F x y = some z → RD K r x y B z) (hb : SE K tb g) : SE K (tOp r (tVar i) tb) (dOpV F i g) := fun W hW σ e B H a d e' h Q q => by
  unfold dOpV at h
  split at h
  · exact se_op hr se_var hb W hW σ e B H a d e' h Q q
  rename_i xs0 ho
  split at h
  · cases h
  rename_i y e1 h1
  split at h
  · cases h
  rename_i xs ho1
  split at h
  · cases h
  rename_i z hF
  by_cases hz : isScal z = true
  case neg =>
    rw [if_neg hz] at h
    cases h
  rw [if_pos hz] at h
  cases h
  obtain ⟨s0, i0, o0⟩ := ownL_some ho
  obtain ⟨s1, i1, o1⟩ := ownL_some ho1
  obtain ⟨p, us0, k1, _⟩ := own_at a i0 o0
  refine ⟨.ref p, k1, hb W hW σ e B H a _ e' h1 _ fun w B1 H1 a1 g1 d1 => ?_⟩
  obtain ⟨p', us, k2, k3, k4, k5⟩ := own_at a1 i1 o1
  rw [k1] at k2
  cases k2
  rw [hW] at k5
  refine hr (upd B1 p (.lst us)) _ _ _ hF _ _ H1 (ex_put a1.ex k4) (.lst (sq_of upd_same) (dpa_mono (Ex.new k3) k5)) (dp_mono (Ex.new k3) d1) Q fun v G H3 g3 hd => ?_
  have gb := gr_back a1.ex g3
  exact q v B1 H3 (a1.gr gb) (g1.trans (gx_gr gb)) (scal_dp hz hd)
theorem se_opW {j : Nat} (hr : ∀ B x y z, F x y = some z → RD K r x y B z) (ha : SE K ta f) : SE K (tOp r ta (tVar j)) (dOpW F f j) := fun W hW σ e B H a d e' h Q q => by
  unfold dOpW at h
  split at h
  · cases h
  rename_i x e1 h1
  split at h
  · have h2 : dOp F f (dVar j) e = some (d, e') := by
      unfold dOp
      conv => lhs; unfold dBind
      rw [h1]
      exact h
    exact se_op hr ha se_var W hW σ e B H a d e' h2 Q q
  rename_i ys ho
  split at h
  · cases h
  rename_i z hF
  by_cases hz : isScal z = true
  case neg =>
    rw [if_neg hz] at h
    cases h
  rw [if_pos hz] at h
  cases h
  obtain ⟨s0, i0, o0⟩ := ownL_some ho
  refine ha W hW σ e B H a _ e' h1 _ fun w B1 H1 a1 g1 d1 => ?_
  obtain ⟨p, us, k2, k3, k4, k5⟩ := own_at a1 i0 o0
  rw [hW] at k5
  refine ⟨.ref p, k2, hr (upd B1 p (.lst us)) _ _ _ hF _ _ H1 (ex_put a1.ex k4) (dp_mono (Ex.new k3) d1) (.lst (sq_of upd_same) (dpa_mono (Ex.new k3) k5)) Q fun v G H3 g3 hd => ?_⟩
  have gb := gr_back a1.ex g3
  exact q v B1 H3 (a1.gr gb) (g1.trans (gx_gr gb)) (scal_dp hz hd)
theorem se_eqV {i : Nat} (hb : SE K tb g) : SE K (tOp (rEqD K) (tVar i) tb) (dOpV eqD i g) := se_opV (fun B => rf_eq) hb
theorem se_neV {i : Nat} (hb : SE K tb g) : SE K (tOp (rNeD K) (tVar i) tb) (dOpV neD i g) := se_opV (fun B => rf_ne) hb
theorem se_eqW {j : Nat} (ha : SE K ta f) : SE K (tOp (rEqD K) ta (tVar j)) (dOpW eqD f j) := se_opW (fun B => rf_eq) ha
theorem se_neW {j : Nat} (ha : SE K ta f) : SE K (tOp (rNeD K) ta (tVar j)) (dOpW neD f j) := se_opW (fun B => rf_ne) ha
theorem se_inW {j : Nat} (ha : SE K ta f) : SE K (tOp (rInD K) ta (tVar j)) (dOpW (inD false) f j) := se_opW (fun B => rf_in) ha
theorem se_notInW {j : Nat} (ha : SE K ta f) : SE K (tOp (rNotInD K) ta (tVar j)) (dOpW (inD true) f j) := se_opW (fun B => rf_notIn) ha
end
end Fd
end

section
set_option Elab.async false
set_option linter.all false
set_option maxRecDepth 100000
set_option maxHeartbeats 1000000
/-! Walks by meaning 11: how meanings are reckoned with. -/
namespace Fd
open PySem PySem.Spec PyProof.Rows L2 Evl Tb

@[simp] theorem dK_e {α : Type} (x : α) (e : En) : dK x e = some (x, e) := rfl
@[simp] theorem sNext_e (e : En) : (fun e : En => some (Rs.nx e)) e = some (.nx e) := rfl
section
variable {α β : Type} {f g k : Dn PyData} {fl fk : Dn (List PyData)} {c c2 : Dn Bool} {F G : PyData → PyData → Option PyData} {e : En} {A C : Ds}
@[simp] theorem dBind_e {f : Dn α} {g : α → Dn β} : dBind f g e = (match f e with
  | some (x, e1) => g x e1
  | none => none) := rfl
@[simp] theorem dLift_e {o : Option α} : dLift o e = (match o with
  | some x => some (x, e)
  | none => none) := rfl
@[simp] theorem dVar_e {i : Nat} : dVar i e = (match e[i]? with
  | some (.d x) => some (x, e)
  | some (.o xs) => some (.list xs, e.set i (.d (.list xs)))
  | _ => none) := rfl
@[simp] theorem dOp_e : dOp F f g e = dBind f (fun x => dBind g fun y => dLift (F x y)) e := rfl
@[simp] theorem dUn_e {F : PyData → Option PyData} : dUn F f e = dBind f (fun x => dLift (F x)) e := rfl
@[simp] theorem dCons_e : dCons f fl e = dBind f (fun x => dBind fl fun xs => dK (x :: xs)) e := rfl
@[simp] theorem dIf_e {f g : Dn α} : dIf c f g e = dBind c (fun b => if b = true then f else g) e := rfl
@[simp] theorem dAnd_e : dAnd f g e = dBind f (fun x => match x with
  | .bool true => dBind g fun y => match y with
    | .bool b => dK (.bool b)
    | _ => fun _ => none
  | .bool false => dK (.bool false)
  | _ => fun _ => none) e := rfl
@[simp] theorem dOr_e : dOr f g e = dBind f (fun x => match x with
  | .bool false => dBind g fun y => match y with
    | .bool b => dK (.bool b)
    | _ => fun _ => none
  | .bool true => dK (.bool true)
  | _ => fun _ => none) e := rfl
@[simp] theorem dNot_e : dNot f e = dBind f (fun x => match x with
  | .bool b => dK (.bool (!b))
  | _ => fun _ => none) e := rfl
@[simp] theorem dTest_e : dTest f e = dBind f (fun x => match x with
  | .bool b => dK b
  | _ => fun _ => none) e := rfl
@[simp] theorem dAndT_e : dAndT c c2 e = dBind c (fun b => if b = true then c2 else dK false) e := rfl
@[simp] theorem dOrT_e : dOrT c c2 e = dBind c (fun b => if b = true then dK true else c2) e := rfl
@[simp] theorem dNotT_e : dNotT c e = dBind c (fun b => dK (!b)) e := rfl
@[simp] theorem dTru_e : dTru f e = dBind f (fun x => dLift (truD x)) e := rfl
@[simp] theorem dFz_e : dFz fl e = dBind fl (fun ds => dK (.list ds)) e := rfl
@[simp] theorem dTup_e : dTup fl e = dBind fl (fun ds => if small ds = true then dK (.tuple ds) else fun _ => none) e := rfl
@[simp] theorem dLst_e : dLst fl e = dBind fl (fun ds => if small ds = true then dK ds else fun _ => none) e := rfl
@[simp] theorem dItems_e : dItems f e = dBind f (fun d => dLift (itemsOf d)) e := rfl
@[simp] theorem dCall_e {n : Nat} {F : List PyData → Option PyData} {dds : List PyData} : dCall n F dds fl e = dBind fl (fun ds => if (ds ++ dds).length = n then dLift (F (ds ++ dds)) else fun _ => none) e := rfl
@[simp] theorem dCallL_e {n : Nat} {F : List PyData → Option (List PyData)} {dds : List PyData} : dCallL n F dds fl e = dBind fl (fun ds => if (ds ++ dds).length = n then dLift (F (ds ++ dds)) else fun _ => none) e := rfl
@[simp] theorem dPart_e : dPart f e = dBind f (fun x => match x with
  | .int i => dK (some i)
  | _ => fun _ => none) e := rfl
@[simp] theorem dRg1_e : dRg1 fl e = dBind fl (fun ds => match ds with
  | [.int n] => if big n = true then dK (rgD 0 n.toNat) else fun _ => none
  | _ => fun _ => none) e := rfl
@[simp] theorem dRg2_e : dRg2 fl e = dBind fl (fun ds => match ds with
  | [.int i, .int j] => if (big i && big j) = true then dK (rgD i (j - i).toNat) else fun _ => none
  | _ => fun _ => none) e := rfl
@[simp] theorem dEnum_e : dEnum fl e = dBind fl (fun ds => match ds with
  | [d] => dLift ((itemsOf d).map (enD 0))
  | _ => fun _ => none) e := rfl
@[simp] theorem dChain_e : dChain F G f g k e = dBind f (fun x => dBind g fun y => dBind (dLift (F x y)) fun z => match z with
  | .bool true => dBind k fun w => dLift (G y w)
  | .bool false => dK (.bool false)
  | _ => fun _ => none) e := rfl
@[simp] theorem sSeq_e : sSeq A C e = (match A e with
  | some (.nx e1) => C e1
  | r => r) := rfl
@[simp] theorem sIf_e : sIf c A C e = (match c e with
  | some (b, e1) => if b = true then A e1 else C e1
  | none => none) := rfl
@[simp] theorem sAsg_e {g : PyData → En → Option En} : sAsg f g e = (match f e with
  | some (d, e1) => (g d e1).map .nx
  | none => none) := rfl
@[simp] theorem sAsgO_e {i : Nat} : sAsgO fl i e = (match fl e with
  | some (d, e1) => (setO i d e1).map .nx
  | none => none) := rfl
@[simp] theorem sRet_e : sRet f e = (f e).map fun r => .rt r.1 r.2 := rfl
@[simp] theorem sRetL_e : sRetL fl e = (fl e).map fun r => .rl r.1 r.2 := rfl
@[simp] theorem sDrop_e : sDrop f e = (f e).map fun r => .nx r.2 := rfl
@[simp] theorem sFor_e {g : PyData → En → Option En} : sFor fl g A e = (match fl e with
  | some (ds, e1) => runFor g A ds e1
  | none => none) := rfl
@[simp] theorem dName_e {i : Nat} {d : PyData} : dName i d e = setD i d e := rfl
@[simp] theorem dNil_e : dNil [] e = some e := rfl
@[simp] theorem dGs_e {f : PyData → En → Option En} {g : List PyData → En → Option En} {d : PyData} {ds : List PyData} : dGs f g (d :: ds) e = (match f d e with
  | some e1 => g ds e1
  | none => none) := rfl
@[simp] theorem dRow_e {n : Nat} {g : List PyData → En → Option En} {d : PyData} : dRow n g d e = (match itemsOf d with
  | some xs => if xs.length = n then g xs e else none
  | none => none) := rfl
end
@[simp] theorem items_rowsD (b : Bool) (ds : List PyData) : itemsOf (rows b ds) = some ds := by cases b <;> rfl
@[simp] theorem items_list (ds : List PyData) : itemsOf (.list ds) = some ds := rfl
@[simp] theorem items_tuple (ds : List PyData) : itemsOf (.tuple ds) = some ds := rfl
@[simp] theorem len_rows (b : Bool) (ds : List PyData) : lenD [rows b ds] = some (.int ds.length) := by cases b <;> rfl
@[simp] theorem len_list (ds : List PyData) : lenD [.list ds] = some (.int ds.length) := rfl
@[simp] theorem len_tuple (ds : List PyData) : lenD [.tuple ds] = some (.int ds.length) := rfl
theorem ix_rows (b : Bool) (ds : List PyData) (i : Int) : ixD (rows b ds) (.int i) = atI ds i := by cases b <;> rfl
@[simp] theorem addD_int (i j : Int) : addD (.int i) (.int j) = some (.int (i + j)) := rfl
@[simp] theorem subD_int (i j : Int) : subD (.int i) (.int j) = some (.int (i - j)) := rfl
@[simp] theorem ltD_int (i j : Int) : ltD (.int i) (.int j) = some (.bool (decide (i < j))) := rfl
@[simp] theorem gtD_int (i j : Int) : gtD (.int i) (.int j) = some (.bool (decide (j < i))) := rfl
@[simp] theorem leD_int (i j : Int) : leD (.int i) (.int j) = some (.bool (decide (i ≤ j))) := rfl
@[simp] theorem geD_int (i j : Int) : geD (.int i) (.int j) = some (.bool (decide (j ≤ i))) := rfl
@[simp] theorem truD_bool (b : Bool) : truD (.bool b) = some b := rfl
@[simp] theorem notNon_int (i : Int) : notNonD (.int i) .none = some (.bool true) := rfl
@[simp] theorem notNon_none : notNonD .none .none = some (.bool false) := rfl
@[simp] theorem isNon_int (i : Int) : isNonD' (.int i) .none = some (.bool false) := rfl
@[simp] theorem isNon_none : isNonD' .none .none = some (.bool true) := rfl
@[simp] theorem negD_int (i : Int) : negD (.int i) = some (.int (-i)) := rfl
/-- a slot that may be set -/
def Fr (s : Sl) : Prop := s = .no ∨ ∃ x, s = .d x
theorem Fr.no : Fr .no := .inl rfl
theorem Fr.d {x : PyData} : Fr (.d x) := .inr ⟨x, rfl⟩
theorem at_nat {α : Type} {ds : List α} {i : Nat} {d : α} (h : ds[i]? = some d) : atI ds (i : Int) = some d := by
  have hi := (List.getElem?_eq_some_iff.mp h).1
  unfold atI ixN
  rw [if_pos (by omega), if_pos (by omega)]
  simpa using h
theorem at_0 {α : Type} (x : α) (xs : List α) : atI (x :: xs) 0 = some x := at_nat (i := 0) rfl
theorem at_1 {α : Type} (x y : α) (xs : List α) : atI (x :: y :: xs) 1 = some y := at_nat (i := 1) rfl
theorem at_2 {α : Type} (x y z : α) (xs : List α) : atI (x :: y :: z :: xs) 2 = some z := at_nat (i := 2) rfl
/-! ### is it an int, a row -/
def wholeD : PyData → Bool
  | .int _ => true
  | _ => false
def rowD : PyData → Bool
  | .list _ => true
  | .tuple _ => true
  | _ => false
@[simp] theorem isi_int (d : PyData) : isiD "int" d = some (.bool (match d with | .int _ => true | .bool _ => true | _ => false)) := by
  unfold isiD
  rw [kit_int]
  rfl
@[simp] theorem isi_bool (d : PyData) : isiD "bool" d = some (.bool (match d with | .bool _ => true | _ => false)) := by
  unfold isiD
  rw [kit_bool]
  rfl
@[simp] theorem isi_list (d : PyData) : isiD "list" d = some (.bool (match d with | .list _ => true | _ => false)) := by
  unfold isiD
  rw [kit_list]
  rfl
@[simp] theorem isi_tuple (d : PyData) : isiD "tuple" d = some (.bool (match d with | .tuple _ => true | _ => false)) := by
  unfold isiD
  rw [kit_tuple]
  rfl
@[simp] theorem isi_str (d : PyData) : isiD "str" d = some (.bool (match d with | .str _ => true | _ => false)) := by
  unfold isiD
  rw [kit_str]
  rfl
@[simp] theorem isi2_row (d : PyData) : isi2D "list" "tuple" d = some (.bool (rowD d)) := by
  unfold isi2D
  rw [kit_list, kit_tuple]
  cases d <;> rfl

/-! ### loops -/
theorem runFor_inv {g : PyData → En → Option En} {b : Ds} (P : Nat → En → Prop) : ∀ (ds : List PyData) (n : Nat) (e : En), P n e →
    (∀ i d e, ds[i]? = some d → P (n + i) e → ∃ e1 e2, g d e = some e1 ∧ (b e1 = some (.nx e2) ∨ b e1 = some (.ct e2)) ∧ P (n + i + 1) e2) → ∃ e', runFor g b ds e = some (.nx e') ∧ P (n + ds.length) e'
  | [], n, e, h, _ => ⟨e, rfl, h⟩
  | d :: ds, n, e, h, hs => by
    obtain ⟨e1, e2, h1, h2, h3⟩ := hs 0 d e rfl h
    obtain ⟨e', k1, k2⟩ := runFor_inv P ds (n + 1) e2 h3 fun i d' e'' hi hp => by
      have z := hs (i + 1) d' e'' hi (by rw [show n + (i + 1) = n + 1 + i by omega]; exact hp)
      rw [show n + (i + 1) + 1 = n + 1 + i + 1 by omega] at z
      exact z
    refine ⟨e', ?_, ?_⟩
    · unfold runFor
      rw [h1]
      rcases h2 with h2 | h2 <;> simp only [h2] <;> exact k1
    · rw [List.length_cons, show n + (ds.length + 1) = n + 1 + ds.length by omega]
      exact k2
/-- a loop that keeps a property of the slots, and never ends early -/
theorem runFor_all {g : PyData → En → Option En} {b : Ds} (P : En → Prop) {ds : List PyData} {e : En} (h0 : P e) (hs : ∀ d ∈ ds, ∀ e, P e → ∃ e1 e2, g d e = some e1 ∧ (b e1 = some (.nx e2) ∨ b e1 = some (.ct e2)) ∧ P e2) : ∃ e', runFor g b ds e = some (.nx e') ∧ P e' := by
  obtain ⟨e', h1, h2⟩ := runFor_inv (g := g) (b := b) (fun _ => P) ds 0 e h0 fun i d e hi hp => hs d (List.mem_of_getElem? hi) e hp
  exact ⟨e', h1, h2⟩
theorem runFor_cons_nx {g : PyData → En → Option En} {b : Ds} {d : PyData} {ds : List PyData} {e e1 e2 : En} (h1 : g d e = some e1) (h2 : b e1 = some (.nx e2)) : runFor g b (d :: ds) e = runFor g b ds e2 := by
  conv => lhs; unfold runFor
  rw [h1]
  simp only [h2]
theorem runFor_cons_ct {g : PyData → En → Option En} {b : Ds} {d : PyData} {ds : List PyData} {e e1 e2 : En} (h1 : g d e = some e1) (h2 : b e1 = some (.ct e2)) : runFor g b (d :: ds) e = runFor g b ds e2 := by
  conv => lhs; unfold runFor
  rw [h1]
  simp only [h2]
theorem runFor_cons_rt {g : PyData → En → Option En} {b : Ds} {d z : PyData} {ds : List PyData} {e e1 e2 : En} (h1 : g d e = some e1) (h2 : b e1 = some (.rt z e2)) : runFor g b (d :: ds) e = some (.rt z e2) := by
  conv => lhs; unfold runFor
  rw [h1]
  simp only [h2]
theorem whileN_inv {c : Dn Bool} {b : Ds} (P : Nat → En → Prop) : ∀ (n : Nat) (e : En), P n e → (∀ n e, P n e → (∃ e1, c e = some (false, e1)) ∨ ∃ e1 e2 m, c e = some (true, e1) ∧ (b e1 = some (.nx e2) ∨ b e1 = some (.ct e2)) ∧ m < n ∧ P m e2) → ∃ m e0 e1, P m e0 ∧ c e0 = some (false, e1) ∧ sWhile c b e = some (.nx e1) := by
  have key : ∀ (n : Nat), ∀ m, m ≤ n → ∀ (e : En), P m e → (∀ n e, P n e → (∃ e1, c e = some (false, e1)) ∨ ∃ e1 e2 m, c e = some (true, e1) ∧ (b e1 = some (.nx e2) ∨ b e1 = some (.ct e2)) ∧ m < n ∧ P m e2) → ∃ k m e0 e1, P m e0 ∧ c e0 = some (false, e1) ∧ whileN c b k e = some (.nx e1) := by
    intro n
    induction n with
    | zero =>
      intro m hm e hp hs
      rcases hs m e hp with ⟨e1, h1⟩ | ⟨e1, e2, m', _, _, h, _⟩
      · exact ⟨1, m, e, e1, hp, h1, by simp only [whileN, h1]⟩
      · omega
    | succ n ih =>
      intro m hm e hp hs
      rcases hs m e hp with ⟨e1, h1⟩ | ⟨e1, e2, m', h1, h2, h3, h4⟩
      · exact ⟨1, m, e, e1, hp, h1, by simp only [whileN, h1]⟩
      · obtain ⟨k, m2, e0, e3, p1, p2, p3⟩ := ih m' (by omega) e2 h4 hs
        refine ⟨k + 1, m2, e0, e3, p1, p2, ?_⟩
        rcases h2 with h2 | h2 <;> simp only [whileN, h1, h2] <;> exact p3
  intro n e hp hs
  obtain ⟨k, m, e0, e1, p1, p2, p3⟩ := key n n (Nat.le_refl _) e hp hs
  exact ⟨m, e0, e1, p1, p2, sWhile_eq p3⟩

/-! ### comprehensions whose parts only read -/
theorem runLc_map {g : PyData → En → Option En} {t : Dn Bool} {f : Dn PyData} {vs : List Nat} {e : En} (c : PyData → Option PyData) : ∀ {ds : List PyData},
    (∀ d ∈ ds, ∃ e1 e2, g d e = some e1 ∧ (match c d with
      | none => t e1 = some (false, e2) ∧ wipeE e2 vs = e
      | some y => ∃ e3, t e1 = some (true, e2) ∧ f e2 = some (y, e3) ∧ wipeE e3 vs = e)) → runLc g t f vs ds e = some (ds.filterMap c, e)
  | [], _ => rfl
  | d :: ds, h => by
    obtain ⟨e1, e2, h1, h2⟩ := h d (List.mem_cons_self ..)
    have ih := runLc_map c (ds := ds) fun d hd => h d (List.mem_cons_of_mem _ hd)
    unfold runLc
    rw [h1]
    cases hc : c d with
    | none =>
      rw [hc] at h2
      obtain ⟨h2, h3⟩ := h2
      simp only [h2, h3, ih, List.filterMap_cons, hc]
    | some y =>
      rw [hc] at h2
      obtain ⟨e3, h2, h3, h4⟩ := h2
      simp only [h2, h3, h4, ih, List.filterMap_cons, hc]
theorem dLc_map {it : Dn (List PyData)} {g : PyData → En → Option En} {t : Dn Bool} {f : Dn PyData} {vs : List Nat} {e e0 : En} {ds : List PyData} (c : PyData → Option PyData) (hi : it e0 = some (ds, e)) (hf : vsFree e vs = true) (hl : ds.length ≤ 40000) (hr : restE e (wipeE e vs) vs = e)
    (h : ∀ d ∈ ds, ∃ e1 e2, g d (wipeE e vs) = some e1 ∧ (match c d with
      | none => t e1 = some (false, e2) ∧ wipeE e2 vs = wipeE e vs
      | some y => ∃ e3, t e1 = some (true, e2) ∧ f e2 = some (y, e3) ∧ wipeE e3 vs = wipeE e vs)) : dLc it g t f vs e0 = some (ds.filterMap c, e) := by
  unfold dLc
  rw [hi]
  have hl' : fewer ds = true := decide_eq_true hl
  simp only [hf, hl', Bool.and_self, if_true, runLc_map c h, hr]

/-! ### data that is compared -/
/-- none, bools, ints, and rows of them, n deep -/
def okD : Nat → PyData → Bool
  | _, .none => true
  | _, .bool _ => true
  | _, .int _ => true
  | n + 1, .list xs => xs.all (okD n)
  | n + 1, .tuple xs => xs.all (okD n)
  | _, _ => false
theorem okD_out : ∀ (n : Nat) (d : PyData), okD n d = true → d.canLay0 = true ∧ d.depth ≤ n ∧ PyData.eqv d d = true := by
  intro n
  induction n with
  | zero =>
    intro d h
    cases d <;> first | (exfalso; exact Bool.noConfusion (show false = true from h)) | (refine ⟨?_, ?_, ?_⟩ <;> simp [PyData.canLay0, PyData.depth, PyData.eqv])
  | succ n ih =>
    have all : ∀ xs : List PyData, xs.all (okD n) = true → PyData.canLayAll0 xs = true ∧ PyData.depthAll xs ≤ n ∧ PyData.eqvAll xs xs = true := fun xs => by
      induction xs with
      | nil => exact fun _ => by simp [PyData.canLayAll0, PyData.depthAll, PyData.eqvAll]
      | cons x xs ihx =>
        intro h
        rw [List.all_cons, Bool.and_eq_true] at h
        obtain ⟨h1, h2, h3⟩ := ih x h.1
        obtain ⟨i1, i2, i3⟩ := ihx h.2
        refine ⟨by simp [PyData.canLayAll0, h1, i1], ?_, by simp [PyData.eqvAll, h3, i3]⟩
        simp only [PyData.depthAll]
        omega
    intro d h
    cases d with
    | none => refine ⟨?_, ?_, ?_⟩ <;> simp [PyData.canLay0, PyData.depth, PyData.eqv]
    | bool b => refine ⟨?_, ?_, ?_⟩ <;> simp [PyData.canLay0, PyData.depth, PyData.eqv]
    | int i => refine ⟨?_, ?_, ?_⟩ <;> simp [PyData.canLay0, PyData.depth, PyData.eqv]
    | str x => exact Bool.noConfusion (show false = true from h)
    | dict x => exact Bool.noConfusion (show false = true from h)
    | list xs =>
      obtain ⟨i1, i2, i3⟩ := all xs h
      refine ⟨by simp [PyData.canLay0, i1], ?_, by simp [PyData.eqv, i3]⟩
      simp only [PyData.depth]
      omega
    | tuple xs =>
      obtain ⟨i1, i2, i3⟩ := all xs h
      refine ⟨by simp [PyData.canLay0, i1], ?_, by simp [PyData.eqv, i3]⟩
      simp only [PyData.depth]
      omega
theorem rowD_rows (b : Bool) (ds : List PyData) : rowD (rows b ds) = true := by cases b <;> rfl
theorem okD_shaped {n : Nat} {d : PyData} (h : okD n d = true) (hn : n ≤ 64) : SeqAt.shaped d = true := by
  obtain ⟨h1, h2, _⟩ := okD_out n d h
  unfold SeqAt.shaped
  rw [h1, decide_eq_true (by omega)]
  rfl
theorem okD_ints (n : Nat) (ns : List Int) : okD (n + 1) (.list (ns.map .int)) = true := by
  show (ns.map PyData.int).all (okD n) = true
  rw [List.all_eq_true]
  intro d hd
  obtain ⟨x, _, rfl⟩ := List.mem_map.mp hd
  cases n <;> rfl
theorem eqv_int (i j : Int) : PyData.eqv (.int i) (.int j) = decide (i = j) := by
  show (i == j) = decide (i = j)
  exact (Bool.beq_eq_decide_eq i j)
theorem eqv_ints : ∀ ns ms : List Int, PyData.eqvAll (ns.map .int) (ms.map .int) = decide (ns = ms)
  | [], [] => by simp [PyData.eqvAll]
  | [], _ :: _ => by simp [PyData.eqvAll]
  | _ :: _, [] => by simp [PyData.eqvAll]
  | n :: ns, m :: ms => by
    rw [List.map_cons, List.map_cons, PyData.eqvAll, eqv_ints ns ms, eqv_int n m]
    simp
theorem shaped_int (i : Int) : SeqAt.shaped (.int i) = true := rfl
@[simp] theorem eqD_int (i j : Int) : eqD (.int i) (.int j) = some (.bool (decide (i = j))) := by
  unfold eqD
  rw [shaped_int, shaped_int, eqv_int]
  rfl
@[simp] theorem neD_int (i j : Int) : neD (.int i) (.int j) = some (.bool (!decide (i = j))) := by
  unfold neD
  rw [shaped_int, shaped_int, eqv_int]
  rfl
theorem eqD_same (n : Nat) {d : PyData} (h : okD n d = true) (hn : n ≤ 64) : eqD d d = some (.bool true) := by
  unfold eqD
  rw [okD_shaped h hn, (okD_out n d h).2.2]
  rfl
theorem neD_same (n : Nat) {d : PyData} (h : okD n d = true) (hn : n ≤ 64) : neD d d = some (.bool false) := by
  unfold neD
  rw [okD_shaped h hn, (okD_out n d h).2.2]
  rfl
end Fd
end

section
set_option Elab.async false
set_option linter.all false
set_option maxRecDepth 100000
set_option maxHeartbeats 1000000
/-! Walks by meaning 12: a list backwards, in a tuple of texts, rows that the module keeps. -/
namespace Fd
open PySem PySem.Spec PyProof.Rows L2 Evl Tb
/-! ### xs[::-1] of a list -/
theorem vals_append {xs ys : List V} {us ws : List Value} : Vals xs us → Vals ys ws → Vals (xs ++ ys) (us ++ ws)
  | .nil, h => h
  | .cons r t, h => .cons r (vals_append t h)
theorem vals_back : ∀ {xs : List V} {us : List Value}, Vals xs us → Vals xs.reverse us.reverse
  | _, _, .nil => .nil
  | _, _, .cons r t => by
    rw [List.reverse_cons, List.reverse_cons]
    exact vals_append (vals_back t) (.cons r .nil)
theorem pick_rev (its : List Value) : slicePick its.toArray none none (some (-1)) = its.reverse.toArray := by
  unfold slicePick sliceBounds
  rw [List.size_toArray]
  show (List.filterMap _ (sliceRange ((its.length : Int) - 1) (-1) (-1))).toArray = _
  have e : sliceRange ((its.length : Int) - 1) (-1) (-1) = (List.range its.length).map fun k => its.length - 1 - k := by
    unfold sliceRange
    have h1 : ¬ ((-1 : Int) > 0) := by decide
    simp only [if_neg h1]
    have h2 : (if ((its.length : Int) - 1 > -1) then ((its.length : Int) - 1 - -1 - -1 - 1) / - -1 else 0).toNat = its.length := by
      split
      · rw [show (- -1 : Int) = 1 from rfl, Int.ediv_one]
        omega
      · rw [show (0 : Int).toNat = 0 from rfl]
        omega
    rw [h2]
    apply List.map_congr_left
    intro k hk
    have := List.mem_range.mp hk
    omega
  rw [e, List.filterMap_map]
  congr 1
  have e2 : List.filterMap ((fun x => its.toArray[x]?) ∘ fun k => its.length - 1 - k) (List.range its.length) = (List.range its.length).map fun k => its.getD (its.length - 1 - k) .none := by
    have e3 : (List.range its.length).map ((fun x => its.toArray[x]?) ∘ fun k => its.length - 1 - k) = (List.range its.length).map fun k => some (its.getD (its.length - 1 - k) .none) := by
      apply List.map_congr_left
      intro k hk
      have hk := List.mem_range.mp hk
      show its.toArray[its.length - 1 - k]? = some _
      rw [List.getElem?_toArray, List.getD_eq_getElem?_getD, List.getElem?_eq_getElem (by omega)]
      rfl
    have e4 : ∀ (f : Nat → Option Value) (l : List Nat), l.filterMap f = (l.map f).filterMap id := fun f l => by
      rw [List.filterMap_map]
      rfl
    rw [e4, e3, List.filterMap_map, ← List.filterMap_eq_map']
    rfl
  rw [e2]
  apply List.ext_getElem?
  intro i
  by_cases hi : i < its.length
  · rw [List.getElem?_reverse hi, List.getElem?_map, List.getElem?_range hi]
    show some (its.getD (its.length - 1 - i) .none) = _
    rw [List.getD_eq_getElem?_getD, List.getElem?_eq_getElem (by omega)]
    rfl
  · rw [List.getElem?_eq_none (show its.reverse.length ≤ i by rw [List.length_reverse]; omega), List.getElem?_eq_none (by rw [List.length_map, List.length_range]; omega)]
def tRev (K : PySem.W.Frag) (te ts : TE) : TE := fun σ H Q => te σ H fun x H1 => ts σ H1 fun y H2 => y = .int (-1) ∧ ∃ a xs, x = .ref a ∧ SqL K H2 a xs ∧ ∀ p, H2 p = none → Q (.ref p) (upd H2 p (.lst xs.reverse))
theorem pe_rev {X : Cx} {K : PySem.W.Frag} {e st : Expr} {te ts : TE} {pos p2 : Pos} (hK : X.K = K) (he : PE X e te) (hs : PE X st ts) : PE X (.Subscript e (.Slice none none (some st) p2) pos) (tRev K te ts) := by
  subst hK
  refine ⟨fun pins s σ H Q I h => ?_⟩
  refine Subscript_ (thn (he.run pins s σ H _ I h) fun v s1 ⟨x, H1, I1, r1, q1⟩ => ?_)
  refine wpAny_Slice ?_
  rw [evalPart_none]
  refine wpAny_pure (wpAny_pure ?_)
  rw [evalPart_some]
  refine thn (hs.run pins s1 σ H1 _ I1 q1) fun u s2 ⟨y, H2, I2, r2, q2⟩ => ?_
  obtain ⟨rfl, a, xs, rfl, hx, q⟩ := q2
  obtain ⟨t, rfl⟩ := r2
  cases r1
  have I4 : Inv X pins σ H2 { s2 with heap := s2.heap.push { cls := .type "slice", data := .fields #[.none, .none, .int (-1) t] } } := I2.kept (t' := s2.toks) fun b ob q => Heap.get?_push_of_some _ q
  obtain ⟨its, r, ht, hz⟩ := I4.list hx
  have hlen := r.length
  show wpAny (model X.prog X.w) X.A (subscriptTail e (.Slice none none (some st) p2) (.ref a) (.ref s2.heap.objs.size)) (EP X pins σ Q) X.xe { s2 with heap := s2.heap.push { cls := .type "slice", data := .fields #[.none, .none, .int (-1) t] } }
  refine tail_any (ops := [.ref a, .ref s2.heap.objs.size]) ht.isList.typeIs slot_list_getitem.lookup ?_ (by with_unfolding_all rfl)
  refine wpAny_getItem_list_slice ht.isList (Heap.IsSliceOf.new ..) .none .none (.int (-1) t) (by decide) ?_ (by rw [List.size_toArray] <;> omega)
  rw [pick_rev]
  refine ⟨.ref _, _, I4.laid (t' := s2.toks) (o := .lst xs.reverse) (fun b ob q => Heap.get?_push_of_some _ q) (Nat.le_refl _) ?_, rfl, q _ (I4.hok.fresh (Nat.le_refl _))⟩
  exact ⟨by rw [List.length_reverse]; omega, _, 0, vals_back r, Heap.get?_push_size _ rfl⟩
theorem dpa_back {K : PySem.W.Frag} {H : Hp} : ∀ {xs : List V} {ds : List PyData}, DpAll K H xs ds → DpAll K H xs.reverse ds.reverse
  | _, _, .nil => .nil
  | _, _, .cons r t => by
    rw [List.reverse_cons, List.reverse_cons]
    exact (dpa_back t).append (.cons r .nil)
def dBack (f g : Dn PyData) : Dn (List PyData) := dBind f fun x => dBind g fun y => match x, y with
  | .list ds, .int i => if i = -1 then dK ds.reverse else fun _ => none
  | _, _ => fun _ => none
theorem sl_back {K : PySem.W.Frag} {te ts : TE} {f g : Dn PyData} (h : SE K te f) (hs : SE K ts g) : SL K (tRev K te ts) (dBack f g) := fun W hW σ e B H a d e' h' Q q => by
  obtain ⟨x, e1, h1, h2⟩ := dBind_some h'
  obtain ⟨y, e2, h3, h4⟩ := dBind_some h2
  refine h W hW σ e B H a x e1 h1 _ fun v1 B1 H1 a1 g1 d1 => hs W hW σ e1 B1 H1 a1 y e2 h3 _ fun v2 B2 H2 a2 g2 d2 => ?_
  have d3 := dp_mono g2.go.hg d1
  split at h4
  · rename_i ds i
    split at h4
    · rename_i hi
      subst hi
      cases h4
      obtain ⟨p, us, rfl, k1, k2⟩ := d3.lst_of
      refine ⟨d2.int_of, p, us, rfl, ex_l a2.ex k1, fun r hr => ?_⟩
      have gr : Gr B2 H2 B2 (upd H2 r (.lst us.reverse)) := Gr.mut a2.ex hr
      exact q _ _ _ _ (a2.gr gr) ((g1.trans g2).trans (gx_gr gr)) ((g1.trans g2).go.dm r hr) upd_same (fresh_back a2.ex hr) (dpa_back k2)
    · cases h4
  · cases h4
/-! ### in a tuple of texts -/
def strsOf : List PyData → Option (List Str)
  | [] => some []
  | .str z :: ds => (strsOf ds).map (z :: ·)
  | _ => none
def rInU (K : PySem.W.Frag) : R2 := fun x y H Q => rInD K x y H Q ∨ rIn K false x y H Q
theorem ok_inU {X : Cx} {K : PySem.W.Frag} (h : X.K = K) (hu : X.A.units + 65 < cLine) : OpR X (compareOp .In) (rInU K) := by
  subst h
  exact (op_inD hu).or op_in_seq
def inUD (x y : PyData) : Option PyData := match x, y with
  | .str z, .tuple ds => (strsOf ds).map fun ss => .bool (ss.any fun s => s == z)
  | _, _ => inD false x y
theorem strs_vals {K : PySem.W.Frag} {H : Hp} : ∀ {ds : List PyData} {ss : List Str} {us : List V}, strsOf ds = some ss → DpAll K H us ds → us = ss.map V.str
  | [], _, _, h, .nil => by
    cases h
    rfl
  | d :: ds, ss, _, h, .cons r t => by
    cases d with
    | str z =>
      obtain ⟨ss', h1, rfl⟩ := Option.map_eq_some_iff.mp h
      rw [strs_vals h1 t, r.str_of]
      rfl
    | _ => cases h
theorem inV_strs (z : Str) : ∀ ss : List Str, inV (.str z) (ss.map V.str) = ss.any fun s => s == z
  | [] => rfl
  | s :: ss => by
    have := inV_strs z ss
    unfold inV at this ⊢
    rw [List.map_cons, List.any_cons, List.any_cons, this]
    rfl
theorem flat_strs : ∀ ss : List Str, (ss.map V.str).all flatV = true
  | [] => rfl
  | _ :: ss => by
    rw [List.map_cons, List.all_cons, flat_strs ss]
    rfl
theorem rf_inU {K : PySem.W.Frag} {B : Hp} (x y z : PyData) (h : inUD x y = some z) : RD K (rInU K) x y B z := by
  unfold inUD at h
  split at h
  · rename_i z ds
    obtain ⟨ss, h1, rfl⟩ := Option.map_eq_some_iff.mp h
    intro a b H1 e hx hy Q q
    obtain ⟨p, us, rfl, k1, k2⟩ := hy.tup_of
    have e1 := strs_vals h1 k2
    subst e1
    rw [hx.str_of]
    refine .inr ⟨p, _, rfl, .inr (ex_t e k1), rfl, flat_strs ss, ?_⟩
    rw [if_neg Bool.false_ne_true, inV_strs]
    exact q _ B H1 (.refl e) (.bl _)
  · intro a b H1 e hx hy Q q
    exact .inl (rf_in _ _ _ h a b H1 e hx hy Q q)
theorem se_inU {K : PySem.W.Frag} {ta tb : TE} {f g : Dn PyData} (ha : SE K ta f) (hb : SE K tb g) : SE K (tOp (rInU K) ta tb) (dOp inUD f g) := se_op (fun B => rf_inU) ha hb
def rNotInU (K : PySem.W.Frag) : R2 := fun x y H Q => rNotInD K x y H Q ∨ rIn K true x y H Q
theorem ok_notInU {X : Cx} {K : PySem.W.Frag} (h : X.K = K) (hu : X.A.units + 65 < cLine) : OpR X (compareOp .NotIn) (rNotInU K) := by
  subst h
  exact (op_notInD hu).or op_notIn_seq
def notInUD (x y : PyData) : Option PyData := match x, y with
  | .str z, .tuple ds => (strsOf ds).map fun ss => .bool (!ss.any fun s => s == z)
  | _, _ => inD true x y
theorem rf_notInU {K : PySem.W.Frag} {B : Hp} (x y z : PyData) (h : notInUD x y = some z) : RD K (rNotInU K) x y B z := by
  unfold notInUD at h
  split at h
  · rename_i z ds
    obtain ⟨ss, h1, rfl⟩ := Option.map_eq_some_iff.mp h
    intro a b H1 e hx hy Q q
    obtain ⟨p, us, rfl, k1, k2⟩ := hy.tup_of
    have e1 := strs_vals h1 k2
    subst e1
    rw [hx.str_of]
    refine .inr ⟨p, _, rfl, .inr (ex_t e k1), rfl, flat_strs ss, ?_⟩
    rw [if_pos rfl, inV_strs]
    exact q _ B H1 (.refl e) (.bl _)
  · intro a b H1 e hx hy Q q
    exact .inl (rf_notIn _ _ _ h a b H1 e hx hy Q q)
theorem se_notInU {K : PySem.W.Frag} {ta tb : TE} {f g : Dn PyData} (ha : SE K ta f) (hb : SE K tb g) : SE K (tOp (rNotInU K) ta tb) (dOp notInUD f g) := se_op (fun B => rf_notInU) ha hb
theorem room65 {n : Nat} {A : Around} (hr : Room n A) : A.units + 65 < cLine := by
  have := hr.un
  omega
/-! ### rows of texts that the module keeps -/
/-- a tuple of texts at a -/
def TxT (K : PySem.W.Frag) (a : Addr) (ss : List Str) : Prop := ∀ H : Hp, SqT K H a (ss.map V.str)
theorem dpa_strs {K : PySem.W.Frag} {H : Hp} : ∀ ss : List Str, DpAll K H (ss.map V.str) (ss.map PyData.str)
  | [] => .nil
  | s :: ss => .cons (.str s) (dpa_strs ss)
theorem se_txt {K : PySem.W.Frag} {a : Addr} {ss : List Str} (h : TxT K a ss) : SE K (tC (.ref a)) (dK (.tuple (ss.map .str))) := se_c fun B => .tup (h B) (dpa_strs ss)
theorem txT_of {K : PySem.W.Frag} {x : Str} {ss : List Str} (h : He.tupB K x (ss.map .str) = true) : TxT K (He.ga K x) ss := fun H => by
  have := He.tupB_ok h H
  rw [List.map_map] at this
  exact this
/-! ### the hook that tells rows of texts too -/
abbrev AlT : Type := He.AlD × Bool
def obsT (fa : List He.Fa) (fn : List He.DefD) (ts : List (Str × List Str)) (K : PySem.W.Frag) : AlT := (He.obsD fa fn K, ts.all fun t => He.tupB K t.1 (t.2.map .str))
def obsTG (n : Nat) (fa : List He.Fa) (fn : List He.DefD) (ts : List (Str × List Str)) (g : Addr → Option Obj) : AlT := obsT fa fn ts (He.frG g (He.asD g n))
def hookT (n : Nat) (fa : List He.Fa) (fn : List He.DefD) (ts : List (Str × List Str)) : PySem.W.Hook where
  α := AlT
  obs := fun s => obsTG n fa fn ts s.heap.get?
  val := fun _ => (He.valD fn, true)
  says := fun _ h => ∃ K : PySem.W.Frag, K.In h ∧ obsT fa fn ts K = (He.valD fn, true)
  of := fun _ _ e => ⟨_, He.frG_in, e⟩
  keeps := fun _ _ _ ⟨K, hK, c⟩ k => ⟨K, PySem.W.Frag.In.keeps hK k, c⟩
theorem obsTG_eq {n : Nat} {fa : List He.Fa} {fn : List He.DefD} {ts : List (Str × List Str)} {g : Addr → Option Obj} {s : Shared} (h : ∀ a, g a = s.heap.get? a) : obsTG n fa fn ts g = (hookT n fa fn ts).obs s := by
  have e : g = s.heap.get? := funext h
  rw [e] <;> rfl
theorem saysT_D {K : PySem.W.Frag} {fa : List He.Fa} {fn : List He.DefD} {ts : List (Str × List Str)} (c : obsT fa fn ts K = (He.valD fn, true)) : He.SaysD fa fn K := congrArg (fun z : AlT => z.1) c
theorem saysT_t {K : PySem.W.Frag} {fa : List He.Fa} {fn : List He.DefD} {ts : List (Str × List Str)} (c : obsT fa fn ts K = (He.valD fn, true)) (i : Nat) {x : Str} {ss : List Str} (h : ts[i]? = some (x, ss)) : TxT K (He.ga K x) ss := by
  have c2 : (ts.all fun t => He.tupB K t.1 (t.2.map .str)) = true := congrArg (fun z : AlT => z.2) c
  exact txT_of (List.all_eq_true.mp c2 (x, ss) (List.mem_of_getElem? h))
end Fd
end

section
set_option Elab.async false
set_option linter.all false
set_option maxRecDepth 100000
set_option maxHeartbeats 1000000
/-! Walks by meaning 13: a name that holds one of two defs. -/
namespace Fd
open PySem PySem.Spec PyProof.Rows L2 Evl Tb
theorem At.setN {W : Wo} {σ : L2.St} {e : En} {B H : Hp} (a : At W σ e B H) {i : Nat} {v : V} (hp : W.pn i = none) : At W (σ.set i (some v)) (e.set i .no) B H where
  ex := a.ex
  nm := a.nm
  len := by rw [List.length_set, List.length_set, a.len]
  dat := fun j x h => by
    by_cases c : i = j
    · subst c
      rw [List.getElem?_set] at h
      simp at h
    · rw [List.getElem?_set_ne c] at h ⊢
      exact a.dat j x h
  own := fun j s xs h h2 => by
    by_cases c : i = j
    · subst c
      rw [List.getElem?_set] at h
      simp at h
      rw [← h.2] at h2
      cases h2
    · rw [List.getElem?_set_ne c] at h ⊢
      exact a.own j s xs h h2
  sep := fun j k s t p xs ys h1 h2 h3 h4 h5 h6 => by
    by_cases c : i = j
    · subst c
      rw [List.getElem?_set] at h1
      simp at h1
      rw [← h1.2] at h2
      cases h2
    · by_cases c2 : i = k
      · subst c2
        rw [List.getElem?_set] at h3
        simp at h3
        rw [← h3.2] at h4
        cases h4
      · rw [List.getElem?_set_ne c] at h1 h5
        rw [List.getElem?_set_ne c2] at h3 h6
        exact a.sep j k s t p xs ys h1 h2 h3 h4 h5 h6
  pin := fun j b h => by
    by_cases c : i = j
    · subst c
      rw [hp] at h
      cases h
    · rw [List.getElem?_set_ne c, List.getElem?_set_ne c]
      exact a.pin j b h
def sFn (c : Dn Bool) (i : Nat) (D1 D2 : Ds) : Ds := fun e => match c e with
  | some (b, e1) => if canSet e1 i = true then (if b = true then D1 (e1.set i .no) else D2 (e1.set i .no)) else none
  | none => none
theorem ss_fn {K : PySem.W.Frag} {i : Nat} {tt : TT} {c : Dn Bool} {a1 a2 : Addr} {T T1 T2 : TE} {D1 D2 : Ds} (tS : TE → TS) (hc : ST K tt c) (hloc : ∀ (t t' : TE) (σ : L2.St), t σ = t' σ → ∀ D H, tS t D σ H → tS t' D σ H)
    (q1 : ∀ σ : L2.St, σ[i]? = some (some (.ref a1)) → T1 σ = T σ) (q2 : ∀ σ : L2.St, σ[i]? = some (some (.ref a2)) → T2 σ = T σ) (h1 : SS K (tS T1) D1) (h2 : SS K (tS T2) D2) :
    SS K (tSeq (tAsg (tIf tt (tC (.ref a1)) (tC (.ref a2))) (gName i)) (tS T)) (sFn c i D1 D2) := fun W hW σ e B H a r hr D q => by
  unfold sFn at hr
  split at hr
  · rename_i b e1 he
    split at hr
    · rename_i hcs
      refine hc W hW σ e B H a b e1 he _ fun B1 H1 a1' g1 => ?_
      have qq := q.mono (a.goM g1)
      have hl : i < σ.length := by
        rw [a1'.len]
        unfold canSet at hcs
        cases hg : e1[i]? with
        | none =>
          rw [hg] at hcs
          cases hcs
        | some s => exact (List.getElem?_eq_some_iff.mp hg).1
      have hp := can_pn a1' hcs
      by_cases z : b = true
      · rw [if_pos z] at hr ⊢
        exact hloc T1 T (σ.set i (some (.ref a1))) (q1 _ (List.getElem?_set_self hl)) D H1 (h1 W hW _ _ B1 H1 (a1'.setN hp) r hr D qq)
      · rw [if_neg z] at hr ⊢
        exact hloc T2 T (σ.set i (some (.ref a2))) (q2 _ (List.getElem?_set_self hl)) D H1 (h2 W hW _ _ B1 H1 (a1'.setN hp) r hr D qq)
    · cases hr
  · cases hr
theorem callA_eq {i : Nat} {S : Addr → Option Sp} {t : TA} {a : Addr} {sp : Sp} (hS : S a = some sp) (σ : L2.St) (h : σ[i]? = some (some (.ref a))) : tCall sp [] (fun _ _ _ => False) t σ = tCallA i S t σ := by
  funext H Q
  have e : (fun (vs : List V) (H1 : Hp) => sp (vs ++ []) H1 Q (fun _ _ _ => False)) = fun vs H1 => sp vs H1 Q (fun _ _ _ => False) := by
    funext vs H1
    rw [List.append_nil]
  apply propext
  constructor
  · intro q
    refine ⟨a, sp, h, hS, ?_⟩
    have q' : t σ H (fun vs H1 => sp (vs ++ []) H1 Q (fun _ _ _ => False)) := q
    rw [e] at q'
    exact q'
  · rintro ⟨f, sp', h1, h2, h3⟩
    rw [h] at h1
    cases h1
    rw [hS] at h2
    cases h2
    show t σ H (fun vs H1 => sp (vs ++ []) H1 Q (fun _ _ _ => False))
    rw [e]
    exact h3
theorem held_has {P : Program} {w : World} {K : PySem.W.Frag} {mg : Str → Option Value} {base : Heap} {x : Str} {k : Nat} {ps : List Str} {sp : Sp} {f : Addr} (A : Has P w K mg base L2.CX0 x k ps [] sp) (hm : mg x = some (.ref f)) : Held P w K mg base k f sp := by
  obtain ⟨f', fd, ds, F, hm', hk, hv, hb⟩ := A.ex
  have e : f' = f := by
    rw [hm] at hm'
    cases hm'
    rfl
  subst e
  cases hv
  exact ⟨fd, ps, F, hk, hb⟩
theorem fun_ne {K : PySem.W.Frag} {x y qx qy : Str} {px py : Arguments} {bx by_ : List Stmt} {sx sy : Scope} {dx dy : List V} {kx ky : List (Str × V)} {f g : Addr} {fd gd : FuncData} (F : FunD K x qx px bx sx dx kx f fd) (G : FunD K y qy py by_ sy dy ky g gd) (h : x ≠ y) : f ≠ g := by
  intro e
  subst e
  obtain ⟨_, _, _, _, _, _, _, _, _, _, rfl, l1, _⟩ := F.ex
  obtain ⟨_, _, _, _, _, _, _, _, _, _, rfl, l2, _⟩ := G.ex
  rw [l1] at l2
  have := Option.some.inj l2
  injection this with _ _ h3 _
  injection h3 with h4
  exact h (congrArg FuncData.name h4)
def twoS (a1 a2 : Addr) (s1 s2 : Sp) : Addr → Option Sp := fun f => if f = a1 then some s1 else if f = a2 then some s2 else none
theorem twoS_1 {a1 a2 : Addr} {s1 s2 : Sp} : twoS a1 a2 s1 s2 a1 = some s1 := if_pos rfl
theorem twoS_2 {a1 a2 : Addr} {s1 s2 : Sp} (h : a1 ≠ a2) : twoS a1 a2 s1 s2 a2 = some s2 := by
  unfold twoS
  rw [if_neg (Ne.symm h), if_pos rfl]
theorem twoS_ok {a1 a2 : Addr} {s1 s2 : Sp} {p : Addr → Sp → Prop} (h1 : p a1 s1) (h2 : p a2 s2) : ∀ f sp, twoS a1 a2 s1 s2 f = some sp → p f sp := fun f sp h => by
  unfold twoS at h
  by_cases c1 : f = a1
  · rw [if_pos c1] at h
    cases h
    rw [c1]
    exact h1
  · rw [if_neg c1] at h
    by_cases c2 : f = a2
    · rw [if_pos c2] at h
      cases h
      rw [c2]
      exact h2
    · rw [if_neg c2] at h
      cases h
end Fd
end

section
set_option Elab.async false
set_option linter.all false
set_option maxRecDepth 100000
set_option maxHeartbeats 1000000
/-! Walks by meaning 14: a def that tells a tuple with a new list at its head; a new list that is changed where it is told. -/
namespace Fd
open PySem PySem.Spec PyProof.Rows L2 Evl Tb
section
variable {K : PySem.W.Frag} {n : Nat} {ta : TA} {te tb : TE} {fl : Dn (List PyData)} {E : XK} {W : Wo} {σ : L2.St} {e : En} {B H : Hp} {t u : TS} {F : Ds}
/-- a tuple: a new list, then data -/
def spT (K : PySem.W.Frag) (n : Nat) (F : List PyData → Option (List PyData × List PyData)) : Sp := fun vs H Q _ => ∃ (B : Hp) (ds xs zs : List PyData), Ex B H ∧ ds.length = n ∧ DpAll K B vs ds ∧ F ds = some (xs, zs) ∧
  ∀ t p us ws B' H', Gr B H B' H' → H p = none → H' p = some (.lst us) → B' p = none → DpAll K B' us xs → SqT K B' t (.ref p :: ws) → DpAll K B' ws zs → Q (.ref t) H'
theorem spT_len {ps : List Str} {F : List PyData → Option (List PyData × List PyData)} (hn : n = ps.length) : ∀ vs H Q E, spT K n F vs H Q E → vs.length = ps.length := fun vs H Q E h => by
  obtain ⟨B, ds, xs, zs, _, hl, hd, _⟩ := h
  rw [DpAll.length hd, hl, hn]
def tupF (F : List PyData → Option (List PyData × List PyData)) : List PyData → Option PyData := fun ds => (F ds).map fun r => .tuple (.list r.1 :: r.2)
def tupHd (F : List PyData → Option (List PyData × List PyData)) : List PyData → Option (List PyData) := fun ds => (F ds).map Prod.fst
theorem se_callT {F : List PyData → Option (List PyData × List PyData)} {dvs : List V} {dds : List PyData} (hv : ∀ H, DpAll K H dvs dds) (h : SA K ta fl) : SE K (tCall (spT K n F) dvs E ta) (dCall n (tupF F) dds fl) := fun W hW σ e B H a d e' h' Q q => by
  obtain ⟨ds, e1, h1, h2⟩ := dBind_some h'
  split at h2
  · rename_i hl
    obtain ⟨h3, rfl⟩ := dLift_some h2
    obtain ⟨⟨xs, zs⟩, hF, rfl⟩ := Option.map_eq_some_iff.mp h3
    refine h W hW σ e B H a ds e' h1 _ fun vs B1 H1 a1 g1 d1 => ⟨B1, ds ++ dds, xs, zs, a1.ex, hl, d1.append (hv _), hF, fun t p us ws B2 H2 g2 p0 hp pB du st dz => ?_⟩
    have g3 := gr_freeze pB p0 g2 hp
    have x3 : Ex B2 (upd B2 p (.lst us)) := Ex.new pB
    exact q (.ref t) _ H2 (a1.gr g3) (g1.trans (gx_gr g3)) (.tup (ex_t x3 st) (.cons (.lst (sq_of upd_same) (dpa_mono x3 du)) (dpa_mono x3 dz)))
  · cases h2
theorem atI_hd {α : Type} (x : α) (xs : List α) : atI (x :: xs) 0 = some x := by
  unfold atI
  simp [ixN]
theorem sl_callT0 {F : List PyData → Option (List PyData × List PyData)} {dvs : List V} {dds : List PyData} (hv : ∀ H, DpAll K H dvs dds) (h : SA K ta fl) : SL K (tOp (rIx K) (tCall (spT K n F) dvs E ta) (tC (.int 0))) (dCallL n (tupHd F) dds fl) := fun W hW σ e B H a d e' h' Q q => by
  obtain ⟨ds, e1, h1, h2⟩ := dBind_some h'
  split at h2
  · rename_i hl
    obtain ⟨h3, rfl⟩ := dLift_some h2
    obtain ⟨⟨xs, zs⟩, hF, rfl⟩ := Option.map_eq_some_iff.mp h3
    refine h W hW σ e B H a ds e' h1 _ fun vs B1 H1 a1 g1 d1 => ⟨B1, ds ++ dds, xs, zs, a1.ex, hl, d1.append (hv _), hF, fun t p us ws B2 H2 g2 p0 hp pB du st dz => ?_⟩
    exact .inr (.inl ⟨t, .ref p :: ws, 0, .ref p, rfl, rfl, ex_t g2.g2 st, atI_hd _ _, q p us B2 H2 (a1.gr g2) (g1.trans (gx_gr g2)) (g1.go.dm p p0) hp pB du⟩)
  · cases h2
/-- a new list is told, changed and forgotten -/
def sAppN (fl : Dn (List PyData)) : Ds := fun e => match fl e with
  | some (xs, e1) => if few xs = true then some (.nx e1) else none
  | none => none
theorem ss_appN (h : SL K te fl) : SS K (tDrop (tBM K "list" rAppend te (tCons (tC .non) tNil))) (sAppN fl) := fun W hW σ e B H a r hr D q => by
  unfold sAppN at hr
  split at hr
  · rename_i xs e1 h1
    split at hr
    · rename_i hf
      cases hr
      refine h W hW σ e B H a xs e1 h1 _ fun p us B1 H1 a1 g1 p0 hp pB d1 => ⟨.inl ⟨rfl, us, sq_of hp⟩, p, us, .non, rfl, rfl, hp, sz_lt ?_, ?_⟩
      · have := of_decide_eq_true hf
        rw [DpAll.length d1]
        omega
      · have no : ¬ Ow σ e1 p := fun z => (a.ow (g1.ow p z)).2.1 p0
        have g2 : Go W.M B H B1 (upd H1 p (.lst (us ++ [.non]))) := Go.put (a.goM g1) p0
        exact q σ B1 _ (a1.oth pB no) g2
    · cases hr
  · cases hr
/-! ### the body of such a def -/
def SQ (K : PySem.W.Frag) (t : TS) (f : En → Option (List PyData × List PyData)) : Prop := ∀ (W : Wo), W.K = K → ∀ (σ : L2.St) (e : En) (B H : Hp), At W σ e B H → ∀ xs zs, f e = some (xs, zs) → ∀ D : Ends,
  (∀ t p us ws B' H', Go W.M B H B' H' → Ex B' H' → W.M p → H' p = some (.lst us) → B' p = none → DpAll K B' us xs → SqT K B' t (.ref p :: ws) → DpAll K B' ws zs → D.rt (.ref t) H') → t D σ H
def qSeq (F : Ds) (g : En → Option (List PyData × List PyData)) : En → Option (List PyData × List PyData) := fun e => match F e with
  | some (.nx e1) => g e1
  | _ => none
theorem sq_seq {g : En → Option (List PyData × List PyData)} (h1 : SS K t F) (h2 : SQ K u g) : SQ K (tSeq t u) (qSeq F g) := fun W hW σ e B H a xs zs hr D q => by
  unfold qSeq at hr
  split at hr
  · rename_i e1 he
    refine h1 W hW σ e B H a _ he _ fun σ' B' H' a' g' => h2 W hW σ' e1 B' H' a' xs zs hr D fun t p us ws B2 H2 g2 => q t p us ws B2 H2 (g'.trans g2)
  · cases hr
def qRet (i : Nat) (fl : Dn (List PyData)) : En → Option (List PyData × List PyData) := fun e => match e[i]? with
  | some (.o _) => match fl e with
    | some (zs, e1) => match e1[i]? with
      | some (.o ys) => if small (.none :: zs) = true then some (ys, zs) else none
      | _ => none
    | none => none
  | _ => none
theorem sq_ret {i : Nat} (h : SA K ta fl) : SQ K (tRet (tTup (tCons (tVar i) ta))) (qRet i fl) := fun W hW σ e B H a xs zs hr D q => by
  unfold qRet at hr
  split at hr
  · rename_i xs0 i0
    split at hr
    · rename_i zs' e1 h1
      split at hr
      · rename_i ys i1
        split at hr
        · rename_i hs
          cases hr
          obtain ⟨p, us0, k1, k2, k3, k4, k5⟩ := a.own i _ xs0 i0 rfl
          refine ⟨.ref p, k1, h W hW σ e B H a _ e1 h1 _ fun vs B1 H1 a1 g1 d1 => ⟨sz_of ?_, fun r hr => ?_⟩⟩
          · have := of_decide_eq_true hs
            rw [List.length_cons] at this ⊢
            rw [DpAll.length d1]
            exact this
          · obtain ⟨p', us, m1, m2, m3, m4, m5⟩ := a1.own i _ xs i1 rfl
            rw [k1] at m1
            cases m1
            rw [hW] at m5
            have pr : p ≠ r := fun z => by
              subst z
              rw [hr] at m4
              cases m4
            have g2 : Gr B1 H1 (upd B1 r (.tup (.ref p :: vs))) (upd H1 r (.tup (.ref p :: vs))) := Gr.new a1.ex hr
            refine q r p us vs _ _ ((a.goM g1).trans (.gr g2)) g2.g2 m2 (by rw [upd_ne pr]; exact m4) (by rw [upd_ne pr]; exact m3) (dpa_mono g2.hg m5) (st_of upd_same) (dpa_mono g2.hg d1)
        · cases hr
      · cases hr
    · cases hr
  · cases hr
def fnT (n : Nat) (F : En → Option (List PyData × List PyData)) (ds : List PyData) : Option (List PyData × List PyData) := F (init ds n)
theorem body_T {m n : Nat} {N : List Str} {t : TS} {F : En → Option (List PyData × List PyData)} (h : SQ K t F) (hn : N.length = m + n) {vs : List V} {Q : VK} {E : XK} (hs : spT K m (fnT n F) vs H Q E) : t { nx := fun _ H' => Q .non H', rt := Q } (L2.start N vs) H := by
  obtain ⟨B, ds, xs, zs, x, hl, hd, hF, q⟩ := hs
  have a := at_start x hd (by rw [hl]; exact hn)
  exact h _ rfl _ _ B H a xs zs hF _ fun t p us ws B' H' g' x' hM hp pB du st dz => q t p us ws B' H' (gr_of_go g' x') hM hp pB du st dz
end
end Fd
end

section
set_option Elab.async false
set_option linter.all false
set_option maxRecDepth 100000
set_option maxHeartbeats 1000000
/-! Walks by meaning 15: ranges downwards, how often a text stands in a list. -/
namespace Fd
open PySem PySem.Spec PyProof.Rows L2 Evl Tb
section
variable {K : PySem.W.Frag} {ta : TA} {te tb : TE} {fl : Dn (List PyData)} {f g : Dn PyData} {B0 : Hp}
/-! ### range(i, j, -1) -/
def dnD (hi : Int) (n : Nat) : List PyData := (List.range n).map fun i => .int (hi - (i : Nat))
theorem dn_len (hi : Int) (n : Nat) : (dnD hi n).length = n := by
  unfold dnD
  rw [List.length_map, List.length_range]
theorem wk_down {hi : Int} {n : Nat} : Wk K (Itc hi (-1) n) B0 (dnD hi n) := wk_of walk_rangeC (dn_len hi n).symm (fun _ _ => trivial) fun i d B1 H1 x H2 e1 e2 hi' y => by
  obtain ⟨rfl, rfl⟩ := y
  unfold dnD at hi'
  rw [List.getElem?_map] at hi'
  obtain ⟨j, hj, rfl⟩ := Option.map_eq_some_iff.mp hi'
  have e : j = i := by
    obtain ⟨h1, h2⟩ := List.getElem?_eq_some_iff.mp hj
    rw [List.getElem_range] at h2
    exact h2.symm
  subst e
  show ∃ B2, Gr B1 H2 B2 H2 ∧ Dp K B2 (V.int (hi + ((j : Nat) : Int) * (-1))) (PyData.int (hi - (j : Nat)))
  rw [show hi + ((j : Nat) : Int) * (-1) = hi - ((j : Nat) : Int) by omega]
  exact ⟨B1, .refl e2, .int _⟩
def dRgN (f : Dn (List PyData)) : Dn (List PyData) := dBind f fun ds => match ds with
  | [.int i, .int j, .int (-1)] => if (big i && big j) = true then dK (dnD i (i - j).toNat) else fun _ => none
  | _ => fun _ => none
theorem si_rgN (h : SA K ta fl) : SI K (iRng3 ta) (dRgN fl) := fun W hW σ e B H a ds e' h' R q => by
  obtain ⟨d, e1, h1, h2⟩ := dBind_some h'
  split at h2
  · rename_i i j
    split at h2
    · rename_i hb
      obtain ⟨rfl, rfl⟩ := dK_some h2
      rw [Bool.and_eq_true] at hb
      have hb1 := of_decide_eq_true hb.1
      have hb2 := of_decide_eq_true hb.2
      refine h W hW σ e B H a _ e' h1 _ fun vs B1 H1 a1 g1 d1 => ?_
      have ek := DpAll.ints (ns := [i, j, -1]) d1
      subst ek
      have bg : (1000000 : Int) < 2 ^ 62 := by decide
      exact ⟨i, j, -1, _, rfl, RgC.neg (by omega) (by omega) (by omega) (by omega), q _ B1 H1 a1 g1 wk_down⟩
    · cases h2
  · cases h2
@[simp] theorem dRgN_e {e : En} : dRgN fl e = dBind fl (fun ds => match ds with
  | [.int i, .int j, .int (-1)] => if (big i && big j) = true then dK (dnD i (i - j).toNat) else fun _ => none
  | _ => fun _ => none) e := rfl
/-! ### a method that reads a list -/
def RMD (K : PySem.W.Frag) (r : V → List V → Hp → VK → Prop) (F : List PyData → List PyData → Option PyData) : Prop := ∀ (B H : Hp) (p : Addr) (us vs : List V) (xs ds : List PyData) (z : PyData), Ex B H → SqL K B p us → DpAll K B us xs → DpAll K B vs ds → F xs ds = some z →
  ∀ Q : VK, (∀ w G H2, Gr B H G H2 → Dp K G w z → Q w H2) → r (.ref p) vs H Q
def dMt (F : List PyData → List PyData → Option PyData) (f : Dn PyData) (fl : Dn (List PyData)) : Dn PyData := dBind f fun x => match x with
  | .list xs => dBind fl fun ds => dLift (F xs ds)
  | _ => fun _ => none
theorem se_mt {r : V → List V → Hp → VK → Prop} {F : List PyData → List PyData → Option PyData} (hr : RMD K r F) (ha : SE K te f) (h : SA K ta fl) : SE K (tBM K "list" r te ta) (dMt F f fl) := fun W hW σ e B H a d e' h' Q q => by
  obtain ⟨x, e1, h1, h2⟩ := dBind_some h'
  split at h2
  · rename_i xs
    obtain ⟨ds, e2, h3, h4⟩ := dBind_some h2
    obtain ⟨h5, rfl⟩ := dLift_some h4
    refine ha W hW σ e B H a _ e1 h1 _ fun v B1 H1 a1 g1 d1 => ?_
    obtain ⟨p, us, rfl, k1, k2⟩ := d1.lst_of
    refine ⟨.inl ⟨rfl, us, ex_l a1.ex k1⟩, h W hW σ e1 B1 H1 a1 ds e' h3 _ fun vs B2 H2 a2 g2 d2 => ?_⟩
    exact hr B2 H2 p us vs xs ds d a2.ex (ex_l g2.go.hg k1) (dpa_mono g2.go.hg k2) d2 h5 Q fun w G H3 g3 hd => q w G H3 (a2.gr g3) ((g1.trans g2).trans (gx_gr g3)) hd
  · cases h2
@[simp] theorem dMt_e {F : List PyData → List PyData → Option PyData} {e : En} : dMt F f fl e = dBind f (fun x => match x with
  | .list xs => dBind fl fun ds => dLift (F xs ds)
  | _ => fun _ => none) e := rfl
/-! ### how often a text stands in a list -/
def strIs (z : Str) : Value → Bool
  | .str x _ => x == z
  | _ => false
theorem str_at {A : Around} {s : Shared} {z : Str} {t : Tok} : ∀ {us : List Value} {ss : List Str}, Vals (ss.map V.str) us → ∀ y ∈ us, SeqAt.EqAt A s y (.str z t) (strIs z y)
  | _, [], .nil => fun y hy => by cases hy
  | _, x :: ss, .cons ⟨t', e⟩ h => fun y hy => by
    rcases List.mem_cons.mp hy with c | c
    · subst c e
      exact SeqAt.EqAt.str_str x t' z t
    · exact str_at h y c
theorem str_cnt {z : Str} : ∀ {us : List Value} {ss : List Str}, Vals (ss.map V.str) us → us.countP (strIs z) = ss.count z
  | _, [], .nil => rfl
  | _, x :: ss, .cons ⟨t', e⟩ h => by
    subst e
    rw [List.countP_cons, List.count_cons, str_cnt h]
    rfl
def rCntS (K : PySem.W.Frag) : V → List V → Hp → VK → Prop := fun x vs H Q => ∃ (p : Addr) (ss : List Str) (z : Str), x = .ref p ∧ vs = [.str z] ∧ SqL K H p (ss.map V.str) ∧ Q (.int ((ss.count z : Nat) : Int)) H
theorem mk_cntS {X : Cx} (hK : X.K = K) : MtR X "list.count" (rCntS K) := by
  subst hK
  intro pins s σ H x xs v us Q I rx rxs h
  obtain ⟨p, ss, z, e1, e2, hs, q⟩ := h
  subst e1 e2
  cases rx
  obtain ⟨u, e3, ru⟩ := rxs.one
  subst e3
  obtain ⟨t, e4⟩ := ru
  subst e4
  obtain ⟨its, rv, ⟨⟨cls, dd, data, sl⟩, n, ho, hc, hdn, hd⟩, hlen⟩ := I.list hs
  simp only at hc hd
  subst hc hd
  refine call_meets PySem.F.slot_list_count ⟨_, ho, rfl⟩ PySem.F.entry_list_count (PySem.F.args_list_count_2 _ _)
    (SeqAt.list_countAt p its.toArray n dd sl (.str z t) (strIs z)) ⟨ho, fun y hy => str_at rv y (by simpa using hy), ?_⟩
  refine ⟨.int ((ss.count z : Nat) : Int), H, I.tok _, ⟨s.toks, ?_⟩, q⟩
  have ec : its.toArray.toList.countP (strIs z) = ss.count z := str_cnt rv
  rw [← ec]
def cntD (xs ds : List PyData) : Option PyData := match ds with
  | [.str z] => (strsOf xs).map fun ss => .int ((ss.count z : Nat) : Int)
  | _ => none
theorem mf_cnt : RMD K (rCntS K) cntD := fun B H p us vs xs ds z x hp hu hv hF Q q => by
  unfold cntD at hF
  split at hF
  · rename_i y
    obtain ⟨ss, h1, rfl⟩ := Option.map_eq_some_iff.mp hF
    have e := strs_vals h1 hu
    subst e
    cases hv with
    | cons h2 h3 =>
      cases h3
      exact ⟨p, ss, y, rfl, by rw [h2.str_of], ex_l x hp, q _ B H (.refl x) (.int _)⟩
  · cases hF
/-! ### a choice that is tested -/
def tIfT (t u v : TT) : TT := fun σ H Q => t σ H fun d H1 => if d = true then u σ H1 Q else v σ H1 Q
theorem pt_ifT {X : Cx} {c a b : Expr} {t u v : TT} {pos : Pos} (hc : PT X c t) (ha : PT X a u) (hb : PT X b v) : PT X (.IfExp c a b pos) (tIfT t u v) := by
  refine ⟨fun pins s σ H Q I h => isTrue_IfExp (thn (hc.run pins s σ H _ I h) fun d s1 ⟨H1, I1, q1⟩ => ?_)⟩
  cases d with
  | true => exact ha.run pins s1 σ H1 Q I1 q1
  | false => exact hb.run pins s1 σ H1 Q I1 q1
theorem st_ifT {t u v : TT} {c d e0 : Dn Bool} (hc : ST K t c) (ha : ST K u d) (hb : ST K v e0) : ST K (tIfT t u v) (dIf c d e0) := fun W hW σ e B H a r e' h Q q => by
  obtain ⟨b, e1, h1, h⟩ := dBind_some h
  refine hc W hW σ e B H a b e1 h1 _ fun B1 H1 a1 g1 => ?_
  by_cases z : b = true
  · rw [if_pos z] at h ⊢
    exact ha W hW σ e1 B1 H1 a1 r e' h Q fun B2 H2 a2 g2 => q B2 H2 a2 (g1.trans g2)
  · rw [if_neg z] at h ⊢
    exact hb W hW σ e1 B1 H1 a1 r e' h Q fun B2 H2 a2 g2 => q B2 H2 a2 (g1.trans g2)
/-! ### data with texts, compared with itself -/
def okE : Nat → PyData → Bool
  | _, .none => true
  | _, .bool _ => true
  | _, .int _ => true
  | _, .str x => SeqAt.shaped (.str x)
  | n + 1, .list xs => xs.all (okE n)
  | n + 1, .tuple xs => xs.all (okE n)
  | _, _ => false
theorem okE_out : ∀ (n : Nat) (d : PyData), okE n d = true → d.canLay0 = true ∧ d.depth ≤ n ∧ PyData.eqv d d = true := by
  intro n
  induction n with
  | zero =>
    intro d h
    cases d with
    | str x => exact ⟨SeqAt.canLay_of_shaped h, by simp [PyData.depth], by simp [PyData.eqv]⟩
    | _ => first | (exfalso; exact Bool.noConfusion (show false = true from h)) | (refine ⟨?_, ?_, ?_⟩ <;> simp [PyData.canLay0, PyData.depth, PyData.eqv])
  | succ n ih =>
    have all : ∀ xs : List PyData, xs.all (okE n) = true → PyData.canLayAll0 xs = true ∧ PyData.depthAll xs ≤ n ∧ PyData.eqvAll xs xs = true := fun xs => by
      induction xs with
      | nil => exact fun _ => by simp [PyData.canLayAll0, PyData.depthAll, PyData.eqvAll]
      | cons x xs ihx =>
        intro h
        rw [List.all_cons, Bool.and_eq_true] at h
        obtain ⟨h1, h2, h3⟩ := ih x h.1
        obtain ⟨i1, i2, i3⟩ := ihx h.2
        refine ⟨by simp [PyData.canLayAll0, h1, i1], ?_, by simp [PyData.eqvAll, h3, i3]⟩
        simp only [PyData.depthAll]
        omega
    intro d h
    cases d with
    | none => refine ⟨?_, ?_, ?_⟩ <;> simp [PyData.canLay0, PyData.depth, PyData.eqv]
    | bool b => refine ⟨?_, ?_, ?_⟩ <;> simp [PyData.canLay0, PyData.depth, PyData.eqv]
    | int i => refine ⟨?_, ?_, ?_⟩ <;> simp [PyData.canLay0, PyData.depth, PyData.eqv]
    | str x => exact ⟨SeqAt.canLay_of_shaped h, by simp [PyData.depth], by simp [PyData.eqv]⟩
    | dict x => exact Bool.noConfusion (show false = true from h)
    | list xs =>
      obtain ⟨i1, i2, i3⟩ := all xs h
      refine ⟨by simp [PyData.canLay0, i1], ?_, by simp [PyData.eqv, i3]⟩
      simp only [PyData.depth]
      omega
    | tuple xs =>
      obtain ⟨i1, i2, i3⟩ := all xs h
      refine ⟨by simp [PyData.canLay0, i1], ?_, by simp [PyData.eqv, i3]⟩
      simp only [PyData.depth]
      omega
theorem okE_shaped {n : Nat} {d : PyData} (h : okE n d = true) (hn : n ≤ 64) : SeqAt.shaped d = true := by
  obtain ⟨h1, h2, _⟩ := okE_out n d h
  unfold SeqAt.shaped
  rw [h1, decide_eq_true (by omega)]
  rfl
theorem eqE_same (n : Nat) {d : PyData} (h : okE n d = true) (hn : n ≤ 64) : eqD d d = some (.bool true) := by
  unfold eqD
  rw [okE_shaped h hn, (okE_out n d h).2.2]
  rfl
theorem neE_same (n : Nat) {d : PyData} (h : okE n d = true) (hn : n ≤ 64) : neD d d = some (.bool false) := by
  unfold neD
  rw [okE_shaped h hn, (okE_out n d h).2.2]
  rfl
/-- a slot that may be set -/
def frB : Sl → Bool
  | .p _ => false
  | _ => true
theorem canSet_fr (e : En) (i : Nat) : canSet e i = (match e[i]? with | some s => frB s | none => false) := by
  unfold canSet
  cases h : e[i]? with
  | none => rfl
  | some s => cases s <;> rfl
@[simp] theorem frB_no : frB .no = true := rfl
@[simp] theorem frB_d (x : PyData) : frB (.d x) = true := rfl
@[simp] theorem frB_o (x : List PyData) : frB (.o x) = true := rfl
end
end Fd
end

section
set_option Elab.async false
set_option linter.all false
set_option maxRecDepth 100000
set_option maxHeartbeats 1000000
/-! Walks by meaning 16: a def handed in as an argument, that says True of all items of a row. -/
namespace Fd
open PySem PySem.Spec PyProof.Rows L2 Evl Tb
/-- f(row, a) where a stands at the address a and says True of each item: None -/
def spW (K : PySem.W.Frag) (F : List PyData → Option PyData) (a : Addr) : Sp := fun vs H Q _ => ∃ (B : Hp) (v1 : V) (b : Bool) (ds : List PyData), vs = [v1, .ref a] ∧ Ex B H ∧ Dp K B v1 (rows b ds) ∧ (∀ d ∈ ds, F [d] = some (.bool true)) ∧ ∀ H', Ex H H' → Q .non H'
theorem spW_len {K : PySem.W.Frag} {F : List PyData → Option PyData} {a : Addr} {ps : List Str} (hn : 2 = ps.length) : ∀ vs H Q E, spW K F a vs H Q E → vs.length = ps.length := fun vs H Q E h => by
  obtain ⟨_, _, _, _, rfl, _⟩ := h
  exact hn
def saysT (F : List PyData → Option PyData) (d : PyData) : Bool := match F [d] with
  | some (.bool true) => true
  | _ => false
theorem saysT_out {F : List PyData → Option PyData} {d : PyData} (h : saysT F d = true) : F [d] = some (.bool true) := by
  unfold saysT at h
  split at h
  · assumption
  · cases h
def dFw (F : List PyData → Option PyData) (f : Dn PyData) : Dn PyData := dBind f fun d => match itemsOf d with
  | some ds => if ds.all (saysT F) = true then dK .none else fun _ => none
  | none => fun _ => none
theorem items_isRows {d : PyData} {ds : List PyData} (h : itemsOf d = some ds) : ∃ b, d = rows b ds := by
  cases d <;> cases h
  · exact ⟨true, rfl⟩
  · exact ⟨false, rfl⟩
section
variable {K : PySem.W.Frag} {te : TE} {f : Dn PyData} {E : XK}
theorem se_fw {F : List PyData → Option PyData} {a : Addr} (h : SE K te f) : SE K (tCall (spW K F a) [] E (tCons te (tCons (tC (.ref a)) tNil))) (dFw F f) := fun W hW σ e B H at_ d e' h' Q q => by
  obtain ⟨x, e1, h1, h2⟩ := dBind_some h'
  have h3 : (match itemsOf x with
    | some ds => if ds.all (saysT F) = true then dK PyData.none else fun _ => none
    | none => fun _ => none) e1 = some (d, e') := h2
  cases hds : itemsOf x with
  | none =>
    rw [hds] at h3
    cases h3
  | some ds =>
    rw [hds] at h3
    by_cases hall : ds.all (saysT F) = true
    · have h4 : (if ds.all (saysT F) = true then dK PyData.none else fun _ => none) e1 = some (d, e') := h3
      rw [if_pos hall] at h4
      obtain ⟨rfl, rfl⟩ := dK_some h4
      obtain ⟨b, rfl⟩ := items_isRows hds
      rw [List.all_eq_true] at hall
      exact h W hW σ e B H at_ _ _ h1 _ fun v B1 H1 a1 g1 d1 => ⟨B1, v, b, ds, rfl, a1.ex, d1, fun d hd => saysT_out (hall d hd), fun H2 e2 => q _ B1 H2 (a1.gr (Gr.ex a1.ex e2)) (g1.trans (gx_gr (Gr.ex a1.ex e2))) .non⟩
    · have h4 : (if ds.all (saysT F) = true then dK PyData.none else fun _ => none) e1 = some (d, e') := h3
      rw [if_neg hall] at h4
      cases h4
end
/-- a def by another name of the module -/
theorem has_ofA {P : Program} {w : World} {K : PySem.W.Frag} {mg : Str → Option Value} {base : Heap} {CX : CXT} {x y qual : Str} {st : Stmt} {f : Addr} {fd : FuncData} {k : Nat} {ps : List Str} {sp : Sp}
    (F : FunD K y qual (defArgs st) (defBody st) (defScope st) [] [] f fd) (hm : mg x = some (.ref f)) (ok : FnOk P w K mg base CX k f fd ps sp)
    (h : ∀ (kV doc pm : Value) (an : Option Addr) (cdv ct : Value) (us : List Value), us.length = ps.length → bindArgs (PySem.W.fnOf y qual (defArgs st) (defBody st) (defScope st) .none kV doc pm an cdv ct) ⟨us, []⟩ = pure (ps.zip us)) :
    Has P w K mg base CX x k ps [] sp := by
  refine ⟨f, fd, [], ok, hm, F.kp, .nil, ?_⟩
  obtain ⟨oc, od, dV, kV, doc, pm, an, cdv, ct, osl, rfl, lk, hcd, hD, hK⟩ := F.ex
  rcases hD with ⟨_, rfl⟩ | ⟨e, _⟩
  · exact .all (h kV doc pm an cdv ct)
  · exact absurd rfl e

theorem has_mkA {P : Program} {w : World} {K : PySem.W.Frag} {mg : Str → Option Value} {base : Heap} {CX : CXT} {x y qual : Str} {st : Stmt} {f : Addr} {fd : FuncData} {k : Nat} {N ps : List Str} {sp : Sp}
    (F : FunD K y qual (defArgs st) (defBody st) (defScope st) [] [] f fd) (hm : mg x = some (.ref f)) (S : FnScope N ps (defScope st)) (len : ∀ vs H Q E, sp vs H Q E → vs.length = ps.length)
    (h : ∀ (kV doc pm : Value) (an : Option Addr) (cdv ct : Value) (us : List Value), us.length = ps.length → bindArgs (PySem.W.fnOf y qual (defArgs st) (defBody st) (defScope st) .none kV doc pm an cdv ct) ⟨us, []⟩ = pure (ps.zip us))
    (body : ∀ (cdv : Value) (A : Around) (outer : List Env) (s : Shared) (H : Hp) (vs : List V) (Q : VK) (E : XK), Room k (A.deeper (envOfC qual (defScope st) s.heap.objs.size f cdv)) → sp vs H Q E →
      ∃ t, PSs (cxOf CX P w K mg base N qual (defScope st) f cdv A outer s H E).nox (defBody st) t ∧ t { nx := fun _ H' => Q .non H', rt := Q } (start N vs) H) :
    Has P w K mg base CX x (k + 1) ps [] sp :=
  has_ofA F hm (F.ok S len fun cdv A outer s H vs Q E hr hs => by
    obtain ⟨t, h1, h2⟩ := body cdv A outer s H vs Q E hr hs
    exact ⟨t, h1.nox, h2⟩) h
/-- CX lets nothing out at all -/
def NoY (CX : CXT) : Prop := ∀ X : Cx, Passes CX X E0
theorem noY0 : NoY CX0 := fun _ => pass0
end Fd
end

section
set_option Elab.async false
set_option linter.all false
set_option maxRecDepth 100000
set_option maxHeartbeats 1000000
/-! Walks by meaning 17: lists of one's own that are read as data for a while, and changed behind that. -/
namespace Fd
open PySem PySem.Spec PyProof.Rows L2 Evl Tb
open Classical in
/-- what is owned is known, for the time of one expression -/
noncomputable def borH (σ : L2.St) (e : En) (B H : Hp) : Hp := fun b => if Ow σ e b then H b else B b
def frzS : Sl → Sl
  | .o xs => .d (.list xs)
  | .p xs => .d (.list xs)
  | s => s
def frz (e : En) : En := e.map frzS
theorem frz_get {e : En} {i : Nat} {s : Sl} (h : (frz e)[i]? = some s) : ∃ t, e[i]? = some t ∧ s = frzS t := by
  unfold frz at h
  rw [List.getElem?_map] at h
  obtain ⟨t, h1, h2⟩ := Option.map_eq_some_iff.mp h
  exact ⟨t, h1, h2.symm⟩
theorem frz_no {e : En} {i : Nat} {s : Sl} (h : (frz e)[i]? = some s) : s.own = none := by
  obtain ⟨t, _, rfl⟩ := frz_get h
  cases t <;> rfl
section
variable {K : PySem.W.Frag} {W : Wo} {σ : L2.St} {e : En} {B H H1 : Hp} {te : TE}
theorem no_ow_frz (b : Addr) : ¬ Ow σ (frz e) b := fun ⟨i, s, xs, h1, h2, _⟩ => by
  rw [frz_no h1] at h2
  cases h2
theorem At.bor (a : At W σ e B H) : At ⟨W.K, W.M, fun _ => none⟩ σ (frz e) (borH σ e B H) H := by
  have hx : Ex B (borH σ e B H) := fun b o h => by
    unfold borH
    by_cases c : Ow σ e b
    · have := (a.ow c).2.2
      rw [this] at h
      cases h
    · rw [if_neg c]
      exact h
  refine ⟨fun b o h => ?_, a.nm, by unfold frz; rw [List.length_map]; exact a.len, fun i x h => ?_, fun i s xs h1 h2 => ?_, fun i j s t p xs ys h1 h2 _ _ _ _ => ?_, fun i b h => nomatch h⟩
  · unfold borH at h
    by_cases c : Ow σ e b
    · rw [if_pos c] at h
      exact h
    · rw [if_neg c] at h
      exact a.ex b o h
  · obtain ⟨t, h1, h2⟩ := frz_get h
    have key : ∀ ys, t.own = some ys → x = .list ys → ∃ v, σ[i]? = some (some v) ∧ Dp W.K (borH σ e B H) v x := fun ys ho hy => by
      obtain ⟨p, vs, g1, g2, g3, g4, g5⟩ := a.own i t ys h1 ho
      refine ⟨_, g1, ?_⟩
      rw [hy]
      refine .lst (sq_of ?_) (dpa_mono hx g5)
      unfold borH
      rw [if_pos ⟨i, t, ys, h1, ho, g1⟩]
      exact g4
    cases t with
    | no => cases h2
    | d y =>
      cases h2
      obtain ⟨v, g1, g2⟩ := a.dat i x h1
      exact ⟨v, g1, dp_mono hx g2⟩
    | o ys =>
      cases h2
      exact key ys rfl rfl
    | p ys =>
      cases h2
      exact key ys rfl rfl
  · rw [frz_no h1] at h2
    cases h2
  · rw [frz_no h1] at h2
    cases h2
theorem At.keep (a : At W σ e B H) (x : Ex H H1) : At W σ e B H1 where
  ex := fun b o h => x b o (a.ex b o h)
  nm := fun b h => a.nm b (fresh_back x h)
  len := a.len
  dat := a.dat
  own := fun i s xs h1 h2 => by
    obtain ⟨p, vs, g1, g2, g3, g4, g5⟩ := a.own i s xs h1 h2
    exact ⟨p, vs, g1, g2, g3, x _ _ g4, g5⟩
  sep := a.sep
  pin := a.pin
theorem gx_keep (x : Ex H H1) : Gx σ e B H e B H1 := ⟨⟨Ex.refl B, fun b o _ h => x b o h, fun b h => fresh_back x h, fun b _ h _ => h⟩, fun _ h => h⟩
/-- no address in it -/
def flatD : PyData → Bool
  | .int _ => true
  | .bool _ => true
  | .none => true
  | .str _ => true
  | _ => false
theorem flat_dp {d : PyData} {v : V} {B1 B2 : Hp} (h : flatD d = true) (g : Dp K B1 v d) : Dp K B2 v d := by
  cases g <;> first | exact Bool.noConfusion (show false = true from h) | constructor
theorem flat_dpa {B1 B2 : Hp} : ∀ {ds : List PyData} {vs : List V}, ds.all flatD = true → DpAll K B1 vs ds → DpAll K B2 vs ds
  | _, _, _, .nil => .nil
  | _, _, h, .cons a b => by
    rw [List.all_cons, Bool.and_eq_true] at h
    exact .cons (flat_dp h.1 a) (flat_dpa h.2 b)
def dBor (f : Dn PyData) : Dn PyData := fun e => match f (frz e) with
  | some (x, _) => if flatD x = true then some (x, e) else none
  | none => none
def dBorL (f : Dn (List PyData)) : Dn (List PyData) := fun e => match f (frz e) with
  | some (xs, _) => if xs.all flatD = true then some (xs, e) else none
  | none => none
theorem se_bor {f : Dn PyData} (h : SE K te f) : SE K te (dBor f) := fun W hW σ e B H a d e' hd Q q => by
  unfold dBor at hd
  split at hd
  · rename_i x e1 hf
    by_cases c : flatD x = true
    · rw [if_pos c] at hd
      cases hd
      refine h ⟨W.K, W.M, fun _ => none⟩ hW σ (frz e) _ H a.bor d e1 hf _ fun v B1 H1 a1 g1 dp => ?_
      have x : Ex H H1 := fun b o hb => g1.go.fr b o (no_ow_frz b) hb
      exact q v B H1 (a.keep x) (gx_keep x) (flat_dp c dp)
    · rw [if_neg c] at hd
      cases hd
  · cases hd
theorem sl_bor {f : Dn (List PyData)} (h : SL K te f) : SL K te (dBorL f) := fun W hW σ e B H a d e' hd Q q => by
  unfold dBorL at hd
  split at hd
  · rename_i xs e1 hf
    by_cases c : xs.all flatD = true
    · rw [if_pos c] at hd
      cases hd
      refine h ⟨W.K, W.M, fun _ => none⟩ hW σ (frz e) _ H a.bor d e1 hf _ fun p vs B1 H1 a1 g1 p0 hp pB dp => ?_
      have x : Ex H H1 := fun b o hb => g1.go.fr b o (no_ow_frz b) hb
      exact q p vs B H1 (a.keep x) (gx_keep x) p0 hp (by
        cases hb : B p with
        | none => rfl
        | some o =>
          have := a.ex p o hb
          rw [p0] at this
          cases this) (flat_dpa c dp)
    · rw [if_neg c] at hd
      cases hd
  · cases hd
end
@[simp] theorem dBor_e {f : Dn PyData} {e : En} : dBor f e = (match f (frz e) with
  | some (x, _) => if flatD x = true then some (x, e) else none
  | none => none) := rfl
@[simp] theorem dBorL_e {f : Dn (List PyData)} {e : En} : dBorL f e = (match f (frz e) with
  | some (xs, _) => if xs.all flatD = true then some (xs, e) else none
  | none => none) := rfl
@[simp] theorem frz_nil : frz [] = [] := rfl
@[simp] theorem frz_cons {s : Sl} {e : En} : frz (s :: e) = frzS s :: frz e := rfl
@[simp] theorem frzS_no : frzS .no = .no := rfl
@[simp] theorem frzS_d {x : PyData} : frzS (.d x) = .d x := rfl
@[simp] theorem frzS_o {xs : List PyData} : frzS (.o xs) = .d (.list xs) := rfl
@[simp] theorem frzS_p {xs : List PyData} : frzS (.p xs) = .d (.list xs) := rfl
@[simp] theorem flat_int (i : Int) : flatD (.int i) = true := rfl
@[simp] theorem flat_bool (b : Bool) : flatD (.bool b) = true := rfl
theorem flat_ints : ∀ ns : List Int, (ns.map PyData.int).all flatD = true
  | [] => rfl
  | n :: ns => by rw [List.map_cons, List.all_cons, flat_ints ns]; rfl
end Fd
end

section
set_option Elab.async false
set_option linter.all false
set_option maxRecDepth 100000
set_option maxHeartbeats 1000000
/-! Walks by meaning 18: zip of rows of which one may be a list, the other a tuple. -/
namespace Fd
open PySem PySem.Spec PyProof.Rows L2 Evl Tb
def SqU : Bool → PySem.W.Frag → Hp → Addr → List V → Prop
  | true => SqL
  | false => SqT
def seU : Bool → Heap → Addr → Array Value → Prop
  | true => fun h l its => h.IsList l its
  | false => fun h l its => h.IsTuple l its
def itU : Bool → Heap → Addr → Addr → Nat → Prop
  | true => fun h it l i => h.IsListIter it l i
  | false => fun h it l i => h.IsTupleIter it l i
def obU : Bool → Addr → Obj
  | true => fun l => { cls := .type "list_iterator", data := .fields #[.ref l, .int 0 0] }
  | false => fun l => { cls := .type "tuple_iterator", data := .fields #[.ref l, .int 0 0] }
section
variable {prog : Program} {w : World} {A : Around}
theorem drU (hh : A.handled = none) (b : Bool) {it l : Addr} (hne : l ≠ it) (its : Array Value) : Draws prog w A it [it, l] its.size (fun i v => its[i]? = some v) fun i h => itU b h it l i ∧ seU b h l its := by
  cases b
  · exact Draws.tuple hh it l hne its
  · exact Draws.list hh it l hne its
theorem bgU (b : Bool) (l : Addr) (its : Array Value) : Begins (.ref l) (obU b l) fun h => seU b h l its := by
  cases b
  · exact begins_tuple l its
  · exact begins_list l its
end
section
variable {b : Bool} {h h' : Heap} {it l : Addr} {i : Nat} {its : Array Value}
theorem it0U (e : h.get? it = some (obU b l)) : itU b h it l 0 := by
  cases b
  · exact ⟨_, e, rfl, rfl⟩
  · exact ⟨_, e, rfl, rfl⟩
theorem itU_obj (x : itU b h it l i) : ∃ o, h.get? it = some o ∧ ∀ v, o.data ≠ .cell v := by
  cases b <;> (obtain ⟨o, e, _, d⟩ := x; exact ⟨o, e, fun v q => by rw [d] at q; cases q⟩)
theorem itU_at (x : itU b h it l i) (k : ∀ o, h.get? it = some o → h'.get? it = some o) : itU b h' it l i := by
  cases b
  · exact Heap.IsTupleIter.at x k
  · exact Heap.IsListIter.at x k
theorem itU_lt (x : itU b h it l i) : it < h.objs.size := by
  obtain ⟨o, e, _⟩ := itU_obj x
  exact Heap.lt_size e
theorem seU_lt (x : seU b h l its) : l < h.objs.size := by
  cases b
  · obtain ⟨o, e, _⟩ := id (show h.IsTuple l its from x)
    exact Heap.lt_size e
  · obtain ⟨o, e, _⟩ := id (show h.IsList l its from x)
    exact Heap.lt_size e
end
section
variable {X : Cx} {pins : List (Addr × Obj)} {σ : L2.St} {H : Hp} {s : Shared} {b : Bool} {a : Addr} {xs ys : List V}
theorem invU (I : Inv X pins σ H s) (q : SqU b X.K H a xs) : ∃ its : List Value, Vals xs its ∧ seU b s.heap a its.toArray := by
  cases b
  · obtain ⟨its, rv, p, _⟩ := I.tuple q
    exact ⟨its, rv, p⟩
  · obtain ⟨its, rv, p, _⟩ := I.list q
    exact ⟨its, rv, p.isList⟩
theorem injU (I : Inv X pins σ H s) (q : SqU b X.K H a xs) (r : SqU b X.K H a ys) : xs = ys := by
  cases b
  · exact I.tuple_inj q r
  · exact I.list_inj q r
end
def ItU (K : PySem.W.Frag) (k1 k2 : Bool) (a b : Addr) : It where
  go := fun i H => ∃ (xs ys : List V) (x y : V), (SqU k1 K H a xs ∧ SqU k2 K H b ys) ∧ xs[i]? = some x ∧ ys[i]? = some y
  yld := fun i H v H' => ∃ T x y, (v = .ref T ∧ H T = none ∧ H' = upd H T (.tup [x, y])) ∧ (∀ xs, SqU k1 K H a xs → xs[i]? = some x) ∧ ∀ ys, SqU k2 K H b ys → ys[i]? = some y
  stop := fun i H => ∃ xs ys : List V, (SqU k1 K H a xs ∧ SqU k2 K H b ys) ∧ i = min xs.length ys.length
theorem sepU {z TI TO i1 i2 a b : Addr} (D : ZipApart z TI TO i1 i2 a b) : ZipSep2 z TI TO i1 i2 [i1, a] [i2, b] where
  TIz := D.TIz
  TOz := D.TOz
  TITO := D.TITO
  TIi1 := D.TIi1
  TIi2 := D.TIi2
  mem1 := List.mem_cons_self
  mem2 := List.mem_cons_self
  zf1 := by simp [D.i1z.symm, D.l1z.symm]
  zf2 := by simp [D.i2z.symm, D.l2z.symm]
  Tf1 := by simp [D.TOi1, D.l1TO.symm]
  Tf2 := by simp [D.TOi2, D.l2TO.symm]
  sep1_2 := by simp [D.i12, D.l2i1.symm]
  sep2_1 := by simp [D.i12.symm, D.l1i2.symm]
/-- how far a zip has come -/
structure ZsU (k1 k2 : Bool) (a b z TI TO i1 i2 : Addr) (i : Nat) (h : Heap) : Prop where
  zi : IsZip h z TI TO .none
  ti : IsTupOf2 h TI (.ref i1) (.ref i2)
  to : ∃ x y, IsTupOf2 h TO x y
  s1 : itU k1 h i1 a i
  s2 : itU k2 h i2 b i
theorem mem5 {α : Type} {c a1 a2 a3 a4 a5 : α} {p : α → Prop} (hc : c ∈ [a1, a2, a3, a4, a5]) (h1 : p a1) (h2 : p a2) (h3 : p a3) (h4 : p a4) (h5 : p a5) : p c := by
  simp only [List.mem_cons, List.not_mem_nil, or_false] at hc
  rcases hc with rfl | rfl | rfl | rfl | rfl <;> assumption
theorem turnU {P : Program} {w : World} {K : PySem.W.Frag} {elts : List Expr} {kk : Nat} {tpos : Pos} {k1 k2 : Bool} {a b z TI TO i1 i2 : Addr} (D : ZipApart z TI TO i1 i2 a b) :
    Turn P w K (.Tuple elts kk tpos) (ItU K k1 k2 a b) [z, TI, TO, i1, i2] z (ZsU k1 k2 a b z TI TO i1 i2) where
  mem := List.mem_cons_self
  obj := fun i h st c hc => by
    obtain ⟨x, y, hO⟩ := st.to
    refine mem5 (p := fun c => ∃ o, h.get? c = some o ∧ ∀ v, o.data ≠ .cell v) hc ⟨_, st.zi, fun v q => by cases q⟩ ⟨_, st.ti, fun v q => by cases q⟩ ⟨_, hO, fun v q => by cases q⟩ (itU_obj st.s1) (itU_obj st.s2)
  keep := fun i h h' st k => by
    obtain ⟨x, y, hO⟩ := st.to
    exact ⟨k z (by simp) _ st.zi, k TI (by simp) _ st.ti, ⟨x, y, k TO (by simp) _ hO⟩, itU_at st.s1 (k i1 (by simp)), itU_at st.s2 (k i2 (by simp))⟩
  item := by
    intro X hP hw hK hc i pins s σ H E I hf st hg
    subst hP hw hK
    obtain ⟨x0, y0, hO⟩ := st.to
    obtain ⟨xs, ys, x, y, ⟨q1, q2⟩, hx, hy⟩ := hg
    obtain ⟨v1, rv1, p1⟩ := invU I q1
    obtain ⟨v2, rv2, p2⟩ := invU I q2
    obtain ⟨u1, hu1, ru1⟩ := rv1.get hx
    obtain ⟨u2, hu2, ru2⟩ := rv2.get hy
    have n1 := (List.getElem?_eq_some_iff.mp hu1).1
    have n2 := (List.getElem?_eq_some_iff.mp hu2).1
    have zlt : z < s.heap.objs.size := Heap.lt_size st.zi
    have hd := I.ok.hd hc
    refine wpAny_pyNext_zipD2_item (sepU D) (drU (A := X.A.in1) hd k1 D.l1i1 v1.toArray) (drU (A := X.A.in1) hd k2 D.l2i2 v2.toArray) st.zi st.ti hO ⟨st.s1, p1⟩ ⟨st.s2, p2⟩ (by simpa using n1) (by simpa using n2) ?_
    intro w1 w2 h1 tk e1 e2 z1 o1 ⟨s1, _⟩ ⟨s2, _⟩ t1 sz hk
    have e1' : w1 = u1 := by
      have e : v1.toArray[i]? = some w1 := e1
      simp only [List.getElem?_toArray] at e
      rw [hu1] at e
      cases e
      rfl
    have e2' : w2 = u2 := by
      have e : v2.toArray[i]? = some w2 := e2
      simp only [List.getElem?_toArray] at e
      rw [hu2] at e
      cases e
      rfl
    subst e1' e2'
    refine ⟨_, rfl, wpAny_letOwnedTupleGo_zip (s := { s with heap := h1, toks := tk }) z1 ?_⟩
    intro h2 z2 sb
    have bt : ∀ c, c ≠ z → ∀ o, h1.get? c = some o → h2.get? c = some o := fun c hc o e => (sb.2 c hc).trans e
    have t2 := bt _ (Nat.ne_of_gt zlt) _ t1
    have nw : ObjOk X.prog X.w (upd H s.heap.objs.size (.tup [x, y])) h2 s.heap.objs.size (.tup [x, y]) := by
      refine ⟨?_, [w1, w2], .cons ru1 (.cons ru2 .nil), _, t2, rfl, _, rfl⟩
      show 2 ≤ sizeLine
      decide
    have kp : ∀ c, c ∉ [z, TI, TO, i1, i2] → ∀ o, s.heap.get? c = some o → h2.get? c = some o := fun c hb o q => by
      simp only [List.mem_cons, List.not_mem_nil, or_false, not_or] at hb
      exact bt c hb.1 o (hk c o hb.1 hb.2.2.1 hb.2.2.2.1 hb.2.2.2.2 q)
    have I2 : Inv X pins σ (upd H s.heap.objs.size (.tup [x, y])) { s with heap := h2, toks := tk } := I.turnedNew (ch := [z, TI, TO, i1, i2]) (t' := tk) (fun c o hb q => kp c hb o q) hf (Nat.le_refl _) nw
    refine ⟨.ref s.heap.objs.size, _, I2, rfl, ⟨_, x, y, ⟨rfl, I.hok.fresh (Nat.le_refl _), rfl⟩, fun l hl => ?_, fun l hl => ?_⟩, ⟨z2, ?_, ⟨w1, w2, bt _ D.TOz _ o1⟩, ?_, ?_⟩, fun c hcm => ?_⟩
    · rw [injU I hl q1]
      exact hx
    · rw [injU I hl q2]
      exact hy
    · exact bt _ D.TIz _ (hk _ _ D.TIz D.TITO D.TIi1 D.TIi2 st.ti)
    · exact itU_at s1 (bt i1 D.i1z)
    · exact itU_at s2 (bt i2 D.i2z)
    · have hlt : c < s.heap.objs.size := mem5 (p := fun c => c < s.heap.objs.size) hcm zlt (Heap.lt_size st.ti) (Heap.lt_size hO) (itU_lt st.s1) (itU_lt st.s2)
      rw [upd_ne (Nat.ne_of_lt hlt)]
      exact (hf c hcm).1
  done := by
    intro X hP hw hK hc i pins s σ H E I hf st hg
    subst hP hw hK
    obtain ⟨x0, y0, hO⟩ := st.to
    obtain ⟨xs, ys, ⟨q1, q2⟩, hend⟩ := hg
    obtain ⟨v1, rv1, p1⟩ := invU I q1
    obtain ⟨v2, rv2, p2⟩ := invU I q2
    have l1 := rv1.length
    have l2 := rv2.length
    have hd := I.ok.hd hc
    refine wpAny_pyNext_zipD2_end (sepU D) (drU (A := X.A.in1) hd k1 D.l1i1 v1.toArray) (drU (A := X.A.in1) hd k2 D.l2i2 v2.toArray) st.zi st.ti hO ⟨st.s1, p1⟩ ⟨st.s2, p2⟩ (by simp; omega) (by simp; omega) (by simp; omega) ?_
    intro h1 tk hk
    refine ⟨rfl, I.turnedL (ch := [z, TI, TO, i1, i2]) (t' := tk) (fun c o hb q => ?_) hf⟩
    simp only [List.mem_cons, List.not_mem_nil, or_false, not_or] at hb
    exact hk c o hb.1 hb.2.2.1 hb.2.2.2.1 hb.2.2.2.2 q
  self := fun A i s Q E st h => wpAny_pyIter_zip st.zi h
def iZipU (K : PySem.W.Frag) (ta : TA) : TI := fun σ H R => ta σ H fun vs H1 => ∃ a b xs ys k1 k2, vs = [.ref a, .ref b] ∧ (SqU k1 K H1 a xs ∧ SqU k2 K H1 b ys) ∧ R (ItU K k1 k2 a b) H1
theorem pi_zipU {X : Cx} {e e2 : Expr} {ta : TA} {p pos tpos : Pos} {elts : List Expr} {kk : Nat} (hg : Gl X "zip") (hm : X.mg "zip" = none) (ha : PA X [e, e2] ta)
    (hs : starEach [e, e2] X.env = (false, eval e X.env) :: starEach [e2] X.env := by rfl)
    (hpl : (backTo pos (starEach [e2] X.env)).any (·.1) = false := by rfl) : PI X (.Tuple elts kk tpos) (.Call (.Name "zip" p) [e, e2] [] pos) (iZipU X.K ta) := by
  refine ⟨fun pins s σ H R I h => Call_ (ld_blt I hg hm PyProof.Rows.boot_zip (callWith_type1 (thn (ha.run pos pins s σ H _ I h) ?_) hs hpl))⟩
  intro us s1 ⟨vs, H1, I1, r1, a, b, xs, ys, k1, k2, ex, ⟨q1, q2⟩, q⟩
  subst ex
  match r1 with
  | .cons r (.cons r' .nil) =>
    cases r
    cases r'
    obtain ⟨v1, rv1, p1⟩ := invU I1 q1
    obtain ⟨v2, rv2, p2⟩ := invU I1 q2
    refine zip_begins2 (bgU k1 a v1.toArray) (bgU k2 b v2.toArray) p1 p2 ?_
    intro h' hz hT hO g1 g2 sz hk
    refine wpAny_pyIter_zip hz ?_
    have I2 : Inv X pins σ H1 { s1 with heap := h' } := I1.kept (t' := s1.toks) hk
    refine ⟨s1.heap.objs.size + 4, _, _, _, H1, rfl, I2, turnU (PySem.W.ktu_apart s1.heap.objs.size a b (seU_lt p1) (seU_lt p2)), ⟨hz, hT, ⟨_, _, hO⟩, it0U g1, it0U g2⟩, ?_, q⟩
    intro c hc
    have hle : s1.heap.objs.size ≤ c := mem5 (p := fun c => s1.heap.objs.size ≤ c) hc (Nat.le_add_right _ _) (Nat.le_add_right _ _) (Nat.le_add_right _ _) (Nat.le_refl _) (Nat.le_add_right _ _)
    exact I1.fpOk hle (I1.hok.fresh hle)
section
variable {K : PySem.W.Frag} {tr : TA} {fl : Dn (List PyData)} {a b : Addr} {xs ys : List V} {k1 k2 : Bool}
theorem walkU : Walk (ItU K k1 k2 a b) (min xs.length ys.length) (fun H => SqU k1 K H a xs ∧ SqU k2 K H b ys) (YPair (fun i => xs[i]?) fun i => ys[i]?) where
  goes := fun i H hi q => ⟨xs, ys, xs[i]'(by omega), ys[i]'(by omega), q, List.getElem?_eq_getElem _, List.getElem?_eq_getElem _⟩
  stops := fun H q => ⟨xs, ys, q, rfl⟩
  yields := fun i H v H' _ q ⟨T, x, y, ⟨h1, h2, h3⟩, h4, h5⟩ => ⟨T, x, y, h1, h2, h3, h4 xs q.1, h5 ys q.2⟩
theorem exU {B H : Hp} (e : Ex B H) (q : SqU k1 K B a xs) : SqU k1 K H a xs := by
  cases k1
  · exact ex_t e q
  · exact ex_l e q
theorem dp_rowU {B : Hp} {v : V} {d : PyData} {ds : List PyData} (hi : itemsOf d = some ds) (h : Dp K B v d) : ∃ k p us, v = .ref p ∧ SqU k K B p us ∧ DpAll K B us ds := by
  cases d with
  | list zs =>
    cases hi
    obtain ⟨p, us, rfl, h1, h2⟩ := h.lst_of
    exact ⟨true, p, us, rfl, h1, h2⟩
  | tuple zs =>
    cases hi
    obtain ⟨p, us, rfl, h1, h2⟩ := h.tup_of
    exact ⟨false, p, us, rfl, h1, h2⟩
  | _ => cases hi
def dZipU (f : Dn (List PyData)) : Dn (List PyData) := dBind f fun ds => match ds with
  | [x, y] => dBind (dLift (itemsOf x)) fun xs => dBind (dLift (itemsOf y)) fun ys => dK (zipD xs ys)
  | _ => fun _ => none
theorem si_zipU (h : SA K tr fl) : SI K (iZipU K tr) (dZipU fl) := fun W hW σ e B H a ds e' h' R q => by
  obtain ⟨d, e1, h1, h2⟩ := dBind_some h'
  split at h2
  · rename_i x y
    obtain ⟨xs, e2, h3, h4⟩ := dBind_some h2
    obtain ⟨i1, rfl⟩ := dLift_some h3
    obtain ⟨ys, e3, h5, h6⟩ := dBind_some h4
    obtain ⟨i2, rfl⟩ := dLift_some h5
    obtain ⟨rfl, rfl⟩ := dK_some h6
    refine h W hW σ e B H a _ _ h1 _ fun vs B1 H1 a1 g1 d1 => ?_
    match d1 with
    | .cons hv (.cons hv2 .nil) =>
      obtain ⟨k1, p, us, rfl, m1, m2⟩ := dp_rowU i1 hv
      obtain ⟨k2, p2, ws, rfl, m3, m4⟩ := dp_rowU i2 hv2
      refine ⟨p, p2, us, ws, k1, k2, rfl, ⟨exU a1.ex m1, exU a1.ex m3⟩, q _ B1 H1 a1 g1 (wk_of walkU ?_ (fun H2 e2 => ⟨exU e2 m1, exU e2 m3⟩) ?_)⟩
      · unfold zipD
        rw [List.length_zipWith, DpAll.length m2, DpAll.length m4]
      · intro i d B2 H2 x H3 e2 e3 hi ⟨T, x', y', hx0, hT, hH, hx, hy⟩
        subst hx0 hH
        obtain ⟨dx, dy, n1, n2, rfl⟩ := zip_get xs ys i d hi
        obtain ⟨d1, n3, n4⟩ := m2.get hx
        obtain ⟨d2, n5, n6⟩ := m4.get hy
        rw [n1] at n3
        rw [n2] at n5
        cases n3
        cases n5
        have gr : Gr B2 H2 (upd B2 T (.tup [x', y'])) (upd H2 T (.tup [x', y'])) := Gr.new e3 hT
        have g2 := e2.trans gr.hg
        exact ⟨_, gr, .tup (st_of upd_same) (.cons (dp_mono g2 n4) (.cons (dp_mono g2 n6) .nil))⟩
  · cases h2
end
@[simp] theorem dZipU_e {f : Dn (List PyData)} {e : En} : dZipU f e = dBind f (fun ds => match ds with
  | [x, y] => dBind (dLift (itemsOf x)) fun xs => dBind (dLift (itemsOf y)) fun ys => dK (zipD xs ys)
  | _ => fun _ => none) e := rfl
end Fd
end

section
set_option Elab.async false
set_option linter.all false
set_option maxRecDepth 100000
set_option maxHeartbeats 1000000
/-! Walks by meaning 19: sorted of a list of ints, or of pairs of ints. -/
namespace Fd
open PySem PySem.Spec PyProof.Rows L2 Evl Tb
/-- the items of xs, each with its pair -/
def rSortedPU (K : PySem.W.Frag) : List V → Hp → VK → Prop := fun vs H Q => ∃ (a : Addr) (xs : List V) (ps : List (Int × Int)), (vs = [.ref a] ∧ SqL K H a xs ∧ xs.length = ps.length) ∧ (∀ z ∈ xs.zip ps, ∃ t, z.1 = V.ref t ∧ SqT K H t [.int z.2.1, .int z.2.2]) ∧
  ∀ (zs : List (V × Int × Int)) p, zs.Perm (xs.zip ps) → zs.Pairwise (fun x y => SrtO.lexB y.2 x.2 = false) → H p = none → Q (.ref p) (upd H p (.lst (zs.map (·.1))))
open Classical in
noncomputable def pickK (L : List (V × Int × Int)) (x : V) : Int × Int := if h : ∃ p, (x, p) ∈ L then h.choose else (0, 0)
theorem cr_sortedPU {X : Cx} : CallR X (.builtin "sorted") (rSortedPU X.K) := by
  intro pins s σ H vs us Q I r h
  obtain ⟨a, xs, ps, ⟨rfl, hs, hl⟩, hx, q⟩ := h
  obtain ⟨its, rv, pl, hz⟩ := I.list hs
  obtain ⟨u, rfl, ru⟩ := vals1 r
  cases ru
  have hk : ∀ z ∈ xs.zip ps, pickK (xs.zip ps) z.1 = z.2 := fun z hm => by
    have ex : ∃ p, (z.1, p) ∈ xs.zip ps := ⟨z.2, hm⟩
    unfold pickK
    rw [dif_pos ex]
    obtain ⟨t1, e1, s1⟩ := hx _ ex.choose_spec
    obtain ⟨t2, e2, s2⟩ := hx _ hm
    rw [e2] at e1
    cases e1
    have e := I.tuple_inj s1 s2
    simp only [List.cons.injEq, V.int.injEq, and_true] at e
    exact Prod.ext e.1 e.2
  have hxs : xs = (xs.zip ps).map (·.1) := (List.map_fst_zip (by omega)).symm
  have hin : ∀ x ∈ xs, ∃ z ∈ xs.zip ps, z.1 = x := fun x hm => by
    rw [hxs] at hm
    exact List.mem_map.mp hm
  obtain ⟨e1, e2⟩ := refs_back rv fun x m => by
    obtain ⟨z, hm, rfl⟩ := hin x m
    obtain ⟨t, e, _⟩ := hx z hm
    exact ⟨t, e⟩
  refine SrtO.sorted_pairsO (k := fun u => pickK (xs.zip ps) (backV u)) pl.isList (by rw [← rv.length]; exact hz) ?_ ?_
  · intro v hv
    obtain ⟨t, rfl⟩ := e2 v hv
    obtain ⟨z, hm, ez⟩ := hin (.ref t) (by rw [e1]; exact List.mem_map.mpr ⟨_, hv, rfl⟩)
    obtain ⟨t', et, ht⟩ := hx z hm
    rw [ez] at et
    cases et
    have hp := hk z hm
    rw [ez] at hp
    show Srt.IsPair s.heap (.ref t) (pickK (xs.zip ps) (.ref t)).1 (pickK (xs.zip ps) (.ref t)).2
    rw [hp]
    obtain ⟨w, r2, ⟨o, ho, hc, n, hd⟩, _⟩ := I.tuple ht
    obtain ⟨u1, u2, rfl, ri, rj⟩ := vals2 r2
    obtain ⟨t1, rfl⟩ := ri
    obtain ⟨t2, rfl⟩ := rj
    exact ⟨t, o, t1, t2, n, rfl, ho, hc, hd⟩
  · intro h' d out h1 h2 kp hd ⟨n, hn⟩
    have h3 : ∀ u ∈ out, ∃ a, u = Value.ref a := fun u hu => e2 u (h2.perm.mem_iff.mp hu)
    have hp : (out.map backV).Perm xs := by
      conv => rhs; rw [e1]
      exact h2.perm.map backV
    have hp2 : ((out.map backV).map fun y => (y, pickK (xs.zip ps) y)).Perm (xs.zip ps) := by
      have e : xs.map (fun y => (y, pickK (xs.zip ps) y)) = xs.zip ps := by
        conv => lhs; rw [hxs]
        rw [List.map_map]
        conv => rhs; rw [← List.map_id (xs.zip ps)]
        apply List.map_congr_left
        intro z hz
        show (z.1, pickK ((xs.zip ps).map (·.1) |>.zip ps) z.1) = z
        rw [← hxs, hk z hz]
      exact (hp.map _).trans (List.Perm.of_eq e)
    have q2 := q _ d hp2 (by
      rw [List.pairwise_map, List.pairwise_map]
      exact h1) (I.hok.fresh hd)
    have e4 : ((out.map backV).map fun y => (y, pickK (xs.zip ps) y)).map (·.1) = out.map backV := by
      rw [List.map_map]
      exact List.map_id' _
    rw [e4] at q2
    refine ⟨.ref d, upd H d (.lst (out.map backV)), I.laid (t' := s.toks) kp hd ⟨?_, out, n, L2.vals_back h3, hn⟩, rfl, q2⟩
    rw [hp.length_eq]
    exact hz
def rSortedU (K : PySem.W.Frag) : List V → Hp → VK → Prop := fun vs H Q => rSortedI K vs H Q ∨ rSortedPU K vs H Q
theorem ck_sortedU {X : Cx} {K : PySem.W.Frag} (h : X.K = K) : CallR X (.builtin "sorted") (rSortedU K) := by
  subst h
  intro pins s σ H vs us Q I r h
  rcases h with h | h
  · exact cr_sortedI pins s σ H vs us Q I r h
  · exact cr_sortedPU pins s σ H vs us Q I r h
abbrev prTup (p : Int × Int) : PyData := .tuple [.int p.1, .int p.2]
def prsOf : List PyData → Option (List (Int × Int))
  | [] => some []
  | .tuple [.int i, .int j] :: ds => (prsOf ds).map ((i, j) :: ·)
  | _ => none
theorem prsOf_some : ∀ {ds : List PyData} {ps : List (Int × Int)}, prsOf ds = some ps → ds = ps.map prTup
  | [], ps, h => by cases h; rfl
  | d :: ds, ps, h => by
    unfold prsOf at h
    split at h
    · cases ‹_ = []›
    · rename_i i j ds' he
      cases he
      obtain ⟨qs, h1, rfl⟩ := Option.map_eq_some_iff.mp h
      rw [prsOf_some h1]
      rfl
    · cases h
theorem prsOf_map : ∀ ps : List (Int × Int), prsOf (ps.map prTup) = some ps
  | [] => rfl
  | p :: ps => by
    rw [List.map_cons, prsOf, prsOf_map ps]
    rfl
def leP (p q : Int × Int) : Bool := !SrtO.lexB q p
def sortP (ps : List (Int × Int)) : List (Int × Int) := ps.mergeSort leP
theorem leP_iff {p q : Int × Int} : leP p q = true ↔ p.1 < q.1 ∨ (p.1 = q.1 ∧ p.2 ≤ q.2) := by
  unfold leP
  rw [Bool.not_eq_true', SrtO.lexB_no]
  omega
theorem sortP_of {ps qs : List (Int × Int)} (hp : qs.Pairwise fun x y => leP x y = true) (h : qs.Perm ps) : qs = sortP ps := by
  have h1 : (sortP ps).Pairwise fun x y => leP x y = true := List.pairwise_mergeSort (le := leP) (fun a b c h1 h2 => by rw [leP_iff] at *; omega) (fun a b => by
    rw [Bool.or_eq_true, leP_iff, leP_iff]
    omega) ps
  refine List.Perm.eq_of_pairwise (fun a b _ _ h1 h2 => ?_) hp h1 (h.trans (List.mergeSort_perm ps leP).symm)
  rw [leP_iff] at h1 h2
  exact Prod.ext (by omega) (by omega)
def sortedUD (ds : List PyData) : Option (List PyData) := match sortedD ds with
  | some z => some z
  | none => match ds with
    | [.list xs] => (prsOf xs).map fun ps => (sortP ps).map prTup
    | _ => none
section
variable {K : PySem.W.Frag} {B : Hp} {tr : TA} {fl : Dn (List PyData)}
theorem pr_of {v : V} {p : Int × Int} (h : Dp K B v (prTup p)) : ∃ t, v = V.ref t ∧ SqT K B t [.int p.1, .int p.2] := by
  obtain ⟨t, us, rfl, h1, h2⟩ := h.tup_of
  cases h2 with
  | cons x h2 =>
    cases h2 with
    | cons y h2 =>
      cases h2
      rw [x.int_of, y.int_of] at h1
      exact ⟨t, rfl, h1⟩
theorem prs_of : ∀ {ps : List (Int × Int)} {xs : List V}, DpAll K B xs (ps.map prTup) → xs.length = ps.length ∧ ∀ z ∈ xs.zip ps, ∃ t, z.1 = V.ref t ∧ SqT K B t [.int z.2.1, .int z.2.2] := by
  intro ps
  induction ps with
  | nil =>
    intro xs h
    cases h
    exact ⟨rfl, fun z h => nomatch h⟩
  | cons p ps ih =>
    intro xs h
    rw [List.map_cons] at h
    cases h with
    | cons h t =>
      obtain ⟨a, b⟩ := ih t
      refine ⟨by rw [List.length_cons, List.length_cons, a], fun z hz => ?_⟩
      rw [List.zip_cons_cons] at hz
      rcases List.mem_cons.mp hz with rfl | hz
      · exact pr_of h
      · exact b z hz
theorem dpa_pairs : ∀ {zs : List (V × Int × Int)}, (∀ z ∈ zs, ∃ t, z.1 = V.ref t ∧ SqT K B t [.int z.2.1, .int z.2.2]) → DpAll K B (zs.map (·.1)) ((zs.map (·.2)).map prTup) := by
  intro zs
  induction zs with
  | nil => exact fun _ => .nil
  | cons z zs ih =>
    intro h
    obtain ⟨t, e, s⟩ := h z List.mem_cons_self
    have h1 : Dp K B z.1 (prTup z.2) := by
      rw [e]
      exact .tup s (.cons (.int _) (.cons (.int _) .nil))
    rw [List.map_cons, List.map_cons, List.map_cons]
    exact .cons h1 (ih fun x hx => h x (List.mem_cons_of_mem _ hx))
theorem rf_sortedU (ds z : List PyData) (h : sortedUD ds = some z) : RCDL K (rSortedU K) ds B z := by
  unfold sortedUD at h
  split at h
  · cases h
    exact fun vs H1 x hd Q q => .inl (rf_sorted ds _ (by assumption) vs H1 x hd Q q)
  · split at h
    · obtain ⟨ps, h1, rfl⟩ := Option.map_eq_some_iff.mp h
      rw [prsOf_some h1]
      intro vs H1 x hd Q q
      cases hd with
      | cons hv hd =>
        cases hd
        obtain ⟨a, xs, rfl, k1, k2⟩ := hv.lst_of
        obtain ⟨l, hz⟩ := prs_of k2
        refine .inr ⟨a, xs, ps, ⟨rfl, ex_l x k1, l⟩, fun z hm => ?_, fun zs p hm hp h0 => ?_⟩
        · obtain ⟨t, e, s⟩ := hz z hm
          exact ⟨t, e, ex_t x s⟩
        · have e : zs.map (·.2) = sortP ps := by
            refine sortP_of ?_ ?_
            · rw [List.pairwise_map]
              exact hp.imp fun h => by
                unfold leP
                rw [h]
                rfl
            · have := hm.map (·.2)
              rw [List.map_snd_zip (by omega)] at this
              exact this
          have dz := dpa_pairs (K := K) (B := B) (zs := zs) fun z hz' => hz z (hm.mem_iff.mp hz')
          rw [e] at dz
          exact q p _ B _ (fresh_back x h0) h0 (Gr.mut x h0) upd_same dz
    · cases h
theorem sl_sortedU (h : SA K tr fl) : SL K (tCB (rSortedU K) tr) (dCbL sortedUD fl) := sl_cb (fun B => rf_sortedU) h
end
end Fd
end

section
set_option Elab.async false
set_option linter.all false
set_option maxRecDepth 100000
set_option maxHeartbeats 1000000
/-! Walks by meaning 20: in a tuple of ints. -/
namespace Fd
open PySem PySem.Spec PyProof.Rows L2 Evl Tb
def anyI (k : Int) (ns : List Int) : Bool := ns.any fun n => n == k
def inXD (x y : PyData) : Option PyData := match inUD x y with
  | some z => some z
  | none => match x, y with
    | .int k, .tuple ds => (intsOf ds).map fun ns => .bool (anyI k ns)
    | _, _ => none
def notInXD (x y : PyData) : Option PyData := match notInUD x y with
  | some z => some z
  | none => match x, y with
    | .int k, .tuple ds => (intsOf ds).map fun ns => .bool (!anyI k ns)
    | _, _ => none
theorem inV_ints (k : Int) : ∀ ns : List Int, inV (.int k) (ns.map V.int) = anyI k ns
  | [] => rfl
  | n :: ns => by
    have ih := inV_ints k ns
    unfold inV anyI at ih ⊢
    rw [List.map_cons, List.any_cons, List.any_cons, ih]
    rfl
theorem flatV_ints : ∀ ns : List Int, (ns.map V.int).all flatV = true
  | [] => rfl
  | _ :: ns => by
    rw [List.map_cons, List.all_cons, flatV_ints ns]
    rfl
section
variable {K : PySem.W.Frag} {B : Hp} {ta tb : TE} {f g : Dn PyData}
theorem rf_inX (x y z : PyData) (h : inXD x y = some z) : RD K (rInU K) x y B z := by
  unfold inXD at h
  split at h
  · cases h
    exact rf_inU _ _ _ (by assumption)
  · split at h
    · obtain ⟨ns, h1, rfl⟩ := Option.map_eq_some_iff.mp h
      rw [intsOf_some h1]
      intro a b H1 e hx hy Q q
      obtain ⟨p, us, rfl, k1, k2⟩ := hy.tup_of
      rw [k2.ints] at k1
      rw [hx.int_of]
      refine .inr ⟨p, _, rfl, .inr (ex_t e k1), rfl, flatV_ints ns, ?_⟩
      rw [if_neg Bool.false_ne_true, inV_ints]
      exact q _ B H1 (.refl e) (.bl _)
    · cases h
theorem rf_notInX (x y z : PyData) (h : notInXD x y = some z) : RD K (rNotInU K) x y B z := by
  unfold notInXD at h
  split at h
  · cases h
    exact rf_notInU _ _ _ (by assumption)
  · split at h
    · obtain ⟨ns, h1, rfl⟩ := Option.map_eq_some_iff.mp h
      rw [intsOf_some h1]
      intro a b H1 e hx hy Q q
      obtain ⟨p, us, rfl, k1, k2⟩ := hy.tup_of
      rw [k2.ints] at k1
      rw [hx.int_of]
      refine .inr ⟨p, _, rfl, .inr (ex_t e k1), rfl, flatV_ints ns, ?_⟩
      rw [if_pos rfl, inV_ints]
      exact q _ B H1 (.refl e) (.bl _)
    · cases h
theorem se_inX (ha : SE K ta f) (hb : SE K tb g) : SE K (tOp (rInU K) ta tb) (dOp inXD f g) := se_op (fun B => rf_inX) ha hb
theorem se_notInX (ha : SE K ta f) (hb : SE K tb g) : SE K (tOp (rNotInU K) ta tb) (dOp notInXD f g) := se_op (fun B => rf_notInX) ha hb
end
theorem in_ints (k : Int) (ns : List Int) : inXD (.int k) (.tuple (ns.map .int)) = some (.bool (anyI k ns)) := by
  have e : inUD (.int k) (.tuple (ns.map .int)) = none := rfl
  unfold inXD
  rw [e]
  show (intsOf (ns.map .int)).map (fun ns => PyData.bool (anyI k ns)) = _
  rw [intsOf_map]
  rfl
theorem anyI_mem {k : Int} {ns : List Int} : anyI k ns = decide (k ∈ ns) := by
  unfold anyI
  induction ns with
  | nil => rfl
  | cons n ns ih =>
    rw [List.any_cons, ih]
    by_cases c : n = k
    · subst c
      simp
    · have : (n == k) = false := by simpa using c
      rw [this, Bool.false_or]
      simp [Ne.symm c]
end Fd
end

section
set_option Elab.async false
set_option linter.all false
set_option maxRecDepth 100000
set_option maxHeartbeats 1000000
/-! What each def means. -/
namespace Tk
open PySem PySem.Spec PyProof.Rows L2 Evl Tb Fd
noncomputable def m_is_whole : Ds :=
    (sRet (dAnd (dUn (isiD "int") (dVar 0)) (dNot (dUn (isiD "bool") (dVar 0)))))
noncomputable def F_is_whole (ds : List PyData) := fnD 0 m_is_whole ds
noncomputable def m_is_row : Ds :=
    (sRet (dUn (isi2D "list" "tuple") (dVar 0)))
noncomputable def F_is_row (ds : List PyData) := fnD 0 m_is_row ds
noncomputable def m_tallest : Ds :=
    (sRet (dBind (dCons (dFz (dLc (dItems (dVar 0)) (dRow 2 (dGs (dName 1) (dGs (dName 2) dNil))) (dK true) (dVar 2) [1, 2])) (dK [])) fun ds => dBind (dCons (dK (.int 0)) (dK [])) fun ks => dLift (maxDfD ds ks)))
noncomputable def F_tallest (ds : List PyData) := fnD 2 m_tallest ds
noncomputable def m_as_tuples : Ds :=
    (sRet (dCb tupD (dCons (dFz (dLc (dItems (dVar 0)) (dRow 2 (dGs (dName 1) (dGs (dName 2) dNil))) (dK true) (dTup (dCons (dVar 1) (dCons (dVar 2) (dK [])))) [1, 2])) (dK []))))
noncomputable def F_as_tuples (ds : List PyData) := fnD 2 m_as_tuples ds
noncomputable def m_count_below_L1 : Ds :=
    (sSeq (sAsg (dOp divD (dOp addD (dVar 2) (dVar 3)) (dK (.int 2))) (dName 4))
    (sIf (dTest (dOp ltD (dOp ixD (dOp ixD (dVar 0) (dVar 4)) (dK (.int 0))) (dVar 1)))
    (sAsg (dOp addD (dVar 4) (dK (.int 1))) (dName 2))
    (sAsg (dVar 4) (dName 3))))
noncomputable def m_count_below : Ds :=
    (sSeq (sAsg (dK (.int 0)) (dName 2))
    (sSeq (sAsg (dCb lenD (dCons (dVar 0) (dK []))) (dName 3))
    (sSeq (sWhile (dTest (dOp ltD (dVar 2) (dVar 3)))
    m_count_below_L1)
    (sRet (dVar 2)))))
noncomputable def F_count_below (ds : List PyData) := fnD 3 m_count_below ds
noncomputable def m__gaps_L1 : Ds :=
    (sIf (dTest (dOp gtD (dVar 5) (dVar 1)))
    (sSeq (sMeth 2 appF (dCons (dVar 3) (dK [])))
    (sAsg (dK (.int 0)) (dName 3)))
    (sIf (dTest (dOp eqD (dVar 5) (dVar 1)))
    (sAug 3 (fun i j => i + j) (dK (.int 1)))
    (fun e => some (.nx e))))
noncomputable def m__gaps : Ds :=
    (sSeq (sAsgO (dLst (dK [])) 2)
    (sSeq (sAsg (dK (.int 0)) (dName 3))
    (sSeq (sFor (dItems (dVar 0)) (dRow 2 (dGs (dName 4) (dGs (dName 5) dNil)))
    m__gaps_L1)
    (sRetL (dBind (dVar 2) fun x => dBind (dFz (dLst (dCons (dVar 3) (dK [])))) fun y => dLift (addL x y))))))
noncomputable def F__gaps (ds : List PyData) := fnL 4 m__gaps ds
noncomputable def m__with_heights : Ds :=
    (sRet (dCb tupD (dCons (dFz (dLc (dZipU (dCons (dVar 0) (dCons (dVar 1) (dK [])))) (dRow 2 (dGs (dName 2) (dGs (dName 3) dNil))) (dK true) (dTup (dCons (dOp ixD (dVar 2) (dK (.int 0))) (dCons (dVar 3) (dK [])))) [2, 3])) (dK []))))
noncomputable def F__with_heights (ds : List PyData) := fnD 2 m__with_heights ds
noncomputable def m__gap_between : Ds :=
    (sRetL (dLc (dRg2 (dCons (dOp addD (dVar 1) (dK (.int 1))) (dCons (dVar 2) (dK [])))) (dName 4) (dTest (dOp eqD (dOp ixD (dVar 0) (dVar 4)) (dVar 3))) (dVar 4) [4]))
noncomputable def F__gap_between (ds : List PyData) := fnL 1 m__gap_between ds
noncomputable def m__law_source : Ds :=
    (sSeq (sAsg (dIf (dTest (dOp geD (dVar 0) (dK (.int 0)))) (dVar 0) (dOp subD (dOp subD (dK (.int 0)) (dOp mulD (dK (.int 3)) (dVar 0))) (dK (.int 1)))) (dName 0))
    (sRetL (dLst (dCons (dOp mulD (dVar 0) (dCb intD (dCons (dOp geD (dVar 0) (dOp powD (dK (.int 10)) (dK (.int 18)))) (dK [])))) (dCons (dOp modD (dCb intD (dCons (dVar 0) (dK []))) (dK (.int 2147483647))) (dCons (dK (.int 0)) (dK [])))))))
noncomputable def F__law_source (ds : List PyData) := fnL 0 m__law_source ds
noncomputable def m__law_next : Ds :=
    (sSeq (sIf (dTest (dOp gtD (dIxV 0 (dK (.int 0))) (dK (.int 0))))
    (sSeq (sAsg (dOp modD (dCb intD (dCons (dIxV 0 (dK (.int 0))) (dK []))) (dVar 1)) (dName 2))
    (sSeq (sSetIx 0 (dOp divD (dIxV 0 (dK (.int 0))) (dVar 1)) (dK (.int 0)))
    (sRet (dVar 2))))
    (fun e => some (.nx e)))
    (sSeq (sSetIx 0 (dOp addD (dIxV 0 (dK (.int 2))) (dK (.int 1))) (dK (.int 2)))
    (sSeq (sAsg (dOp modD (dCb intD (dCons (dOp addD (dOp addD (dIxV 0 (dK (.int 1))) (dOp mulD (dK (.int 104729)) (dIxV 0 (dK (.int 2))))) (dK (.int 7919))) (dK []))) (dK (.int 2147483647))) (dName 3))
    (sSeq (sAsg (dOp modD (dCb intD (dCons (dOp mulD (dVar 3) (dK (.int 48271))) (dK []))) (dK (.int 2147483647))) (dName 3))
    (sSeq (sAsg (dOp modD (dCb intD (dCons (dOp mulD (dVar 3) (dOp addD (dOp divD (dVar 3) (dK (.int 1009))) (dK (.int 69621)))) (dK []))) (dK (.int 2147483647))) (dName 3))
    (sSeq (sAsg (dOp modD (dCb intD (dCons (dOp mulD (dVar 3) (dOp addD (dOp divD (dVar 3) (dK (.int 2003))) (dK (.int 40692)))) (dK []))) (dK (.int 2147483399))) (dName 3))
    (sRet (dOp modD (dCb intD (dCons (dOp divD (dVar 3) (dK (.int 7))) (dK []))) (dVar 1)))))))))
noncomputable def F__law_next (xs ds : List PyData) := fnM 2 m__law_next xs ds
noncomputable def m__law_all_L1 : Ds :=
    (sExtL 7 (dLc (dItems (dVar 2)) (dName 9) (dTest (dOp ltD (dOp addD (dCb lenD (dCons (dVar 8) (dK []))) (dCb lenD (dCons (dVar 9) (dK [])))) (dVar 0))) (dOp addD (dOp addD (dVar 8) (dTup (dCons (dVar 3) (dK [])))) (dVar 9)) [9]))
noncomputable def m__law_all_L2 : Ds :=
    (sSeq (sAsgO (dLst (dK [])) 7)
    (sSeq (sFor (dItems (dVar 4)) (dName 8)
    m__law_all_L1)
    (sPar (dCons (dVar 7) (dCons (dOp addD (dVar 5) (dVar 7)) (dK []))) [4, 5])))
noncomputable def m__law_all_L3 : Ds :=
    (sSeq (sPar (dCons (dVar 2) (dCons (dFz (dLst (dK []))) (dK []))) [4, 5])
    (sSeq (sFor (dRg1 (dCons (dK (.int 3)) (dK []))) (dName 6)
    m__law_all_L2)
    (sPar (dCons (dOp addD (dVar 1) (dVar 5)) (dCons (dVar 5) (dK []))) [1, 2])))
noncomputable def m__law_all : Ds :=
    (sSeq (sPar (dCons (dFz (dLst (dK []))) (dCons (dFz (dLst (dCons (dTup (dK [])) (dK [])))) (dK []))) [1, 2])
    (sSeq (sFor (dItems (dTup (dCons (dK (.int 1)) (dCons (dK (.int 2)) (dCons (dK (.int 3)) (dK [])))))) (dName 3)
    m__law_all_L3)
    (sRet (dVar 1))))
noncomputable def F__law_all (ds : List PyData) := fnD 9 m__law_all ds
noncomputable def m__law_behind : Ds :=
    (sSeq (sAsg (dTup (dCons (dOp ixD (dOp ixD (dVar 1) (dVar 2)) (dK (.int 1))) (dCons (dOp ixD (dVar 1) (dOp addD (dVar 2) (dK (.int 1)))) (dK [])))) (dRow 2 (dGs (dName 3) (dGs (dRow 2 (dGs (dName 4) (dGs (dName 5) dNil))) dNil))))
    (sSeq (sIf (dTest (dOp gtD (dCb lenD (dCons (dVar 4) (dK []))) (dK (.int 1))))
    (sSeq (sAsg (dTup (dCons (dTup (dCons (dSl (dVar 0) (dPart (dVar 2)) (dPart (dOp addD (dVar 2) (dK (.int 1))))) (dCons (dOp addD (dVar 3) (dSl (dVar 5) (dK none) (dPart (dK (.int 1))))) (dK [])))) (dCons (dTup (dCons (dSl (dVar 4) (dPart (dK (.int 1))) (dK none)) (dCons (dSl (dVar 5) (dPart (dK (.int 1))) (dK none)) (dK [])))) (dK [])))) (dName 6))
    (sRet (dTup (dCons (dOp addD (dOp addD (dSl (dVar 0) (dK none) (dPart (dVar 2))) (dSl (dVar 4) (dK none) (dPart (dK (.int 1))))) (dSl (dVar 0) (dPart (dOp addD (dVar 2) (dK (.int 1)))) (dK none))) (dCons (dOp addD (dOp addD (dSl (dVar 1) (dK none) (dPart (dVar 2))) (dVar 6)) (dSl (dVar 1) (dPart (dOp addD (dVar 2) (dK (.int 2)))) (dK none))) (dK []))))))
    (fun e => some (.nx e)))
    (sSeq (sAsg (dTup (dCons (dOp addD (dSl (dVar 0) (dPart (dVar 2)) (dPart (dOp addD (dVar 2) (dK (.int 1))))) (dVar 4)) (dCons (dOp addD (dVar 3) (dVar 5)) (dK [])))) (dName 7))
    (sRet (dTup (dCons (dOp addD (dSl (dVar 0) (dK none) (dPart (dVar 2))) (dSl (dVar 0) (dPart (dOp addD (dVar 2) (dK (.int 1)))) (dK none))) (dCons (dOp addD (dOp addD (dSl (dVar 1) (dK none) (dPart (dVar 2))) (dTup (dCons (dVar 7) (dK [])))) (dSl (dVar 1) (dPart (dOp addD (dVar 2) (dK (.int 2)))) (dK none))) (dK []))))))))
noncomputable def F__law_behind (ds : List PyData) := fnD 5 m__law_behind ds
noncomputable def m__law_ahead : Ds :=
    (sSeq (sAsg (dTup (dCons (dOp ixD (dOp ixD (dVar 1) (dVar 2)) (dK (.int 1))) (dCons (dOp ixD (dVar 1) (dOp subD (dVar 2) (dK (.int 1)))) (dK [])))) (dRow 2 (dGs (dName 3) (dGs (dRow 2 (dGs (dName 4) (dGs (dName 5) dNil))) dNil))))
    (sSeq (sIf (dTest (dOp gtD (dCb lenD (dCons (dVar 4) (dK []))) (dK (.int 1))))
    (sSeq (sAsg (dTup (dCons (dTup (dCons (dSl (dVar 4) (dK none) (dPart (dUn negD (dK (.int 1))))) (dCons (dSl (dVar 5) (dK none) (dPart (dUn negD (dK (.int 1))))) (dK [])))) (dCons (dTup (dCons (dSl (dVar 0) (dPart (dOp subD (dVar 2) (dK (.int 1)))) (dK none)) (dCons (dOp addD (dSl (dVar 5) (dPart (dUn negD (dK (.int 1)))) (dK none)) (dVar 3)) (dK [])))) (dK [])))) (dName 6))
    (sRet (dTup (dCons (dOp addD (dSl (dVar 0) (dK none) (dPart (dOp subD (dVar 2) (dK (.int 1))))) (dSl (dVar 4) (dPart (dUn negD (dK (.int 1)))) (dK none))) (dCons (dOp addD (dSl (dVar 1) (dK none) (dPart (dOp subD (dVar 2) (dK (.int 1))))) (dVar 6)) (dK []))))))
    (fun e => some (.nx e)))
    (sRet (dTup (dCons (dSl (dVar 0) (dK none) (dPart (dOp subD (dVar 2) (dK (.int 1))))) (dCons (dOp addD (dSl (dVar 1) (dK none) (dPart (dOp subD (dVar 2) (dK (.int 1))))) (dTup (dCons (dTup (dCons (dOp addD (dVar 4) (dSl (dVar 0) (dPart (dOp subD (dVar 2) (dK (.int 1)))) (dK none))) (dCons (dOp addD (dVar 5) (dVar 3)) (dK [])))) (dK [])))) (dK [])))))))
noncomputable def F__law_ahead (ds : List PyData) := fnD 4 m__law_ahead ds
noncomputable def m_check_number : Ds :=
    (sSeq (sIf (dOrT (dNotT (dTru (dCall 1 F_is_whole [] (dCons (dVar 0) (dK []))))) (dTest (dOp ltD (dVar 0) (dVar 1))))
    sNever
    (fun e => some (.nx e)))
    (sIf (dAndT (dTest (dOp notNonD (dVar 2) (dK .none))) (dTest (dOp gtD (dVar 0) (dVar 2))))
    sNever
    (fun e => some (.nx e))))
noncomputable def F_check_number (ds : List PyData) := fnD 0 m_check_number ds
noncomputable def m_check_key : Ds :=
    (sIf (dNotT (dTru (dCall 1 F_is_whole [] (dCons (dVar 0) (dK [])))))
    sNever
    (fun e => some (.nx e)))
noncomputable def F_check_key (ds : List PyData) := fnD 0 m_check_key ds
noncomputable def m__is_pair : Ds :=
    (sSeq (sIf (dOrT (dNotT (dTru (dCall 1 F_is_row [] (dCons (dVar 0) (dK []))))) (dTest (dOp neD (dCb lenD (dCons (dVar 0) (dK []))) (dK (.int 2)))))
    (sRet (dK (.bool false)))
    (fun e => some (.nx e)))
    (sSeq (sAsg (dVar 0) (dRow 2 (dGs (dName 1) (dGs (dName 2) dNil))))
    (sRet (dAnd (dCall 1 F_is_whole [] (dCons (dVar 1) (dK []))) (dAnd (dCall 1 F_is_whole [] (dCons (dVar 2) (dK []))) (dOp geD (dVar 2) (dK (.int 1))))))))
noncomputable def F__is_pair (ds : List PyData) := fnD 2 m__is_pair ds
noncomputable def m_has_key : Ds :=
    (sSeq (sAsg (dCall 2 F_count_below [] (dCons (dVar 0) (dCons (dVar 1) (dK [])))) (dName 2))
    (sRet (dAnd (dOp ltD (dVar 2) (dCb lenD (dCons (dVar 0) (dK [])))) (dOp eqD (dOp ixD (dOp ixD (dVar 0) (dVar 2)) (dK (.int 0))) (dVar 1)))))
noncomputable def F_has_key (ds : List PyData) := fnD 1 m_has_key ds
noncomputable def m_without_key : Ds :=
    (sSeq (sAsg (dCall 2 F_count_below [] (dCons (dVar 0) (dCons (dVar 1) (dK [])))) (dName 2))
    (sSeq (sAsg (dCall 1 F_as_tuples [] (dCons (dVar 0) (dK []))) (dName 3))
    (sRet (dOp addD (dSl (dVar 3) (dK none) (dPart (dVar 2))) (dSl (dVar 3) (dPart (dOp addD (dVar 2) (dK (.int 1)))) (dK none))))))
noncomputable def F_without_key (ds : List PyData) := fnD 2 m_without_key ds
noncomputable def m__is_gapped_L1 : Ds :=
    (sSeq (sAsg (dFz (dCallL 2 F__gaps [] (dCons (dVar 0) (dCons (dVar 3) (dK []))))) (dName 4))
    (sIf (dOrT (dTest (dOp ltD (dCb minD (dCons (dVar 4) (dK []))) (dVar 1))) (dTest (dOp gtD (dCb maxD (dCons (dVar 4) (dK []))) (dVar 2))))
    (sRet (dK (.bool false)))
    (fun e => some (.nx e))))
noncomputable def m__is_gapped : Ds :=
    (sSeq (sFor (dRg2 (dCons (dK (.int 1)) (dCons (dOp addD (dCall 1 F_tallest [] (dCons (dVar 0) (dK []))) (dK (.int 1))) (dK [])))) (dName 3)
    m__is_gapped_L1)
    (sRet (dK (.bool true))))
noncomputable def F__is_gapped (ds : List PyData) := fnD 2 m__is_gapped ds
noncomputable def m__lower_behind : Ds :=
    (sSeq (sIf (dOrT (dTest (dOp eqD (dVar 2) (dOp subD (dCb lenD (dCons (dVar 1) (dK []))) (dK (.int 1))))) (dTest (dOp neD (dIxV 0 (dOp ixD (dVar 1) (dVar 2))) (dOp addD (dVar 3) (dK (.int 1))))))
    (sRet (dK (.bool false)))
    (fun e => some (.nx e)))
    (sSeq (sAsg (dFz (dBorL (dCallL 4 F__gap_between [] (dCons (dVar 0) (dCons (dOp ixD (dVar 1) (dVar 2)) (dCons (dOp ixD (dVar 1) (dOp addD (dVar 2) (dK (.int 1)))) (dCons (dVar 3) (dK [])))))))) (dName 4))
    (sSeq (sSetIx 0 (dVar 3) (dOp ixD (dVar 1) (dVar 2)))
    (sSeq (sIf (dTest (dOp gtD (dCb lenD (dCons (dVar 4) (dK []))) (dK (.int 1))))
    (sSetIx 0 (dOp addD (dVar 3) (dK (.int 1))) (dOp ixD (dVar 4) (dK (.int 0))))
    (fun e => some (.nx e)))
    (sRet (dK (.bool true)))))))
noncomputable def F__lower_behind (xs ds : List PyData) := fnM 1 m__lower_behind xs ds
noncomputable def m__lower_ahead : Ds :=
    (sSeq (sIf (dOrT (dTest (dOp eqD (dVar 2) (dK (.int 0)))) (dTest (dOp neD (dIxV 0 (dOp ixD (dVar 1) (dVar 2))) (dOp addD (dVar 3) (dK (.int 1))))))
    (sRet (dK (.bool false)))
    (fun e => some (.nx e)))
    (sSeq (sAsg (dFz (dBorL (dCallL 4 F__gap_between [] (dCons (dVar 0) (dCons (dOp ixD (dVar 1) (dOp subD (dVar 2) (dK (.int 1)))) (dCons (dOp ixD (dVar 1) (dVar 2)) (dCons (dVar 3) (dK [])))))))) (dName 4))
    (sSeq (sSetIx 0 (dVar 3) (dOp ixD (dVar 1) (dVar 2)))
    (sSeq (sIf (dTest (dOp gtD (dCb lenD (dCons (dVar 4) (dK []))) (dK (.int 1))))
    (sSetIx 0 (dOp addD (dVar 3) (dK (.int 1))) (dOp ixD (dVar 4) (dUn negD (dK (.int 1)))))
    (fun e => some (.nx e)))
    (sRet (dK (.bool true)))))))
noncomputable def F__lower_ahead (xs ds : List PyData) := fnM 1 m__lower_ahead xs ds
noncomputable def m_wrong_tower_L1 : Ds :=
    (sSeq (sIf (dNotT (dTru (dCall 1 F__is_pair [] (dCons (dVar 2) (dK [])))))
    (sRet (dVar 1))
    (fun e => some (.nx e)))
    (sIf (dAndT (dTest (dOp gtD (dVar 1) (dK (.int 0)))) (dTest (dOp leD (dOp ixD (dVar 2) (dK (.int 0))) (dOp ixD (dOp ixD (dVar 0) (dOp subD (dVar 1) (dK (.int 1)))) (dK (.int 0))))))
    (sRet (dVar 1))
    (fun e => some (.nx e))))
noncomputable def m_wrong_tower : Ds :=
    (sSeq (sIf (dNotT (dTru (dCall 1 F_is_row [] (dCons (dVar 0) (dK [])))))
    (sRet (dUn negD (dK (.int 1))))
    (fun e => some (.nx e)))
    (sSeq (sFor (dEnum (dCons (dVar 0) (dK []))) (dRow 2 (dGs (dName 1) (dGs (dName 2) dNil)))
    m_wrong_tower_L1)
    (sRet (dK .none))))
noncomputable def F_wrong_tower (ds : List PyData) := fnD 2 m_wrong_tower ds
noncomputable def m__check_bounds : Ds :=
    (sSeq (sDrop (dCall 3 F_check_number [] (dCons (dVar 0) (dCons (dK (.int 1)) (dCons (dK (.int 20)) (dK []))))))
    (sDrop (dCall 3 F_check_number [] (dCons (dVar 1) (dCons (dVar 0) (dCons (dK (.int 20)) (dK [])))))))
noncomputable def F__check_bounds (ds : List PyData) := fnD 0 m__check_bounds ds
noncomputable def m__fill_gap_L1 : Ds :=
    (sIf (dNotT (dTru (dFz (dBorL (dCallL 4 F__gap_between [] (dCons (dVar 0) (dCons (dOp ixD (dVar 3) (dVar 2)) (dCons (dOp ixD (dVar 3) (dOp addD (dVar 2) (dK (.int 1)))) (dCons (dVar 1) (dK []))))))))))
    (sRet (dOr (dCallM 0 4 F__lower_behind (dCons (dVar 3) (dCons (dOp addD (dVar 2) (dK (.int 1))) (dCons (dVar 1) (dK []))))) (dCallM 0 4 F__lower_ahead (dCons (dVar 3) (dCons (dVar 2) (dCons (dVar 1) (dK [])))))))
    (fun e => some (.nx e)))
noncomputable def m__fill_gap : Ds :=
    (sSeq (sAsg (dOp addD (dOp addD (dFz (dLst (dCons (dUn negD (dK (.int 1))) (dK [])))) (dFz (dBorL (dLc (dEnum (dCons (dVar 0) (dK []))) (dRow 2 (dGs (dName 2) (dGs (dName 4) dNil))) (dTest (dOp gtD (dVar 4) (dVar 1))) (dVar 2) [2, 4])))) (dFz (dLst (dCons (dLenV 0) (dK []))))) (dName 3))
    (sSeq (sFor (dRg1 (dCons (dOp subD (dCb lenD (dCons (dVar 3) (dK []))) (dK (.int 1))) (dK []))) (dName 2)
    m__fill_gap_L1)
    (sRet (dK (.bool false)))))
noncomputable def F__fill_gap (xs ds : List PyData) := fnM 3 m__fill_gap xs ds
noncomputable def m_check_towers : Ds :=
    (sSeq (sAsg (dCall 1 F_wrong_tower [] (dCons (dVar 0) (dK []))) (dName 1))
    (sIf (dTest (dOp notNonD (dVar 1) (dK .none)))
    sNever
    (fun e => some (.nx e))))
noncomputable def F_check_towers (ds : List PyData) := fnD 1 m_check_towers ds
noncomputable def m_is_gapped : Ds :=
    (sSeq (sDrop (dCall 1 F_check_towers [] (dCons (dVar 0) (dK []))))
    (sSeq (sDrop (dCall 2 F__check_bounds [] (dCons (dVar 1) (dCons (dVar 2) (dK [])))))
    (sRet (dCall 3 F__is_gapped [] (dCons (dVar 0) (dCons (dVar 1) (dCons (dVar 2) (dK []))))))))
noncomputable def F_is_gapped (ds : List PyData) := fnD 0 m_is_gapped ds
noncomputable def m__check_gaps : Ds :=
    (sSeq (sDrop (dCall 1 F_check_towers [] (dCons (dVar 0) (dK []))))
    (sIf (dNotT (dTru (dCall 3 F__is_gapped [] (dCons (dVar 0) (dCons (dK (.int 1)) (dCons (dK (.int 3)) (dK [])))))))
    sNever
    (fun e => some (.nx e))))
noncomputable def F__check_gaps (ds : List PyData) := fnD 0 m__check_gaps ds
noncomputable def m__law_node_L1 (R : List PyData → Option PyData) : Ds :=
    (sSeq (sMeth 4 appF (dCons (dCall 2 R [] (dCons (dFz (dLc (dItems (dVar 5)) (dName 7) (dTest (dOp ltD (dOp ixD (dVar 7) (dK (.int 0))) (dVar 2))) (dVar 7) [7])) (dCons (dOp subD (dVar 1) (dK (.int 1))) (dK [])))) (dK [])))
    (sAsg (dFz (dLc (dItems (dVar 5)) (dName 7) (dTest (dOp gtD (dOp ixD (dVar 7) (dK (.int 0))) (dVar 2))) (dVar 7) [7])) (dName 5)))
noncomputable def m__law_node (R : List PyData → Option PyData) : Ds :=
    (sSeq (sAsg (dCb tupD (dCons (dFz (dLc (dItems (dVar 0)) (dRow 2 (dGs (dName 2) (dGs (dName 6) dNil))) (dTest (dOp eqD (dVar 6) (dVar 1))) (dVar 2) [2, 6])) (dK []))) (dName 3))
    (sSeq (sIf (dTest (dOp eqD (dVar 1) (dK (.int 1))))
    (sRet (dTup (dCons (dVar 3) (dCons (dTup (dK [])) (dK [])))))
    (fun e => some (.nx e)))
    (sSeq (sParX (xConsL (dLst (dK [])) (xCons (dFz (dCbL lstD (dCons (dVar 0) (dK [])))) xNil)) [4, 5])
    (sSeq (sFor (dItems (dVar 3)) (dName 2)
    (m__law_node_L1 R))
    (sRet (dTup (dCons (dVar 3) (dCons (dCb tupD (dCons (dOp addD (dVar 4) (dFz (dLst (dCons (dCall 2 R [] (dCons (dVar 5) (dCons (dOp subD (dVar 1) (dK (.int 1))) (dK [])))) (dK []))))) (dK []))) (dK [])))))))))
noncomputable def FR__law_node : Nat → List PyData → Option PyData
  | 0 => fun _ => none
  | n + 1 => fun ds => fnD 6 (m__law_node (FR__law_node n)) ds
noncomputable def F__law_node := FR__law_node 4
noncomputable def m__law_rows_L1 (R : List PyData → Option (List PyData)) : Ds :=
    (sAsg (dOp addD (dVar 2) (dFz (dCallL 2 R [] (dCons (dVar 3) (dCons (dOp subD (dVar 1) (dK (.int 1))) (dK [])))))) (dName 2))
noncomputable def m__law_rows (R : List PyData → Option (List PyData)) : Ds :=
    (sSeq (sAsg (dFz (dLc (dItems (dOp ixD (dVar 0) (dK (.int 0)))) (dName 4) (dK true) (dTup (dCons (dVar 4) (dCons (dVar 1) (dK [])))) [4])) (dName 2))
    (sSeq (sFor (dItems (dOp ixD (dVar 0) (dK (.int 1)))) (dName 3)
    (m__law_rows_L1 R))
    (sRetL (dCbL sortedUD (dCons (dVar 2) (dK []))))))
noncomputable def FR__law_rows : Nat → List PyData → Option (List PyData)
  | 0 => fun _ => none
  | n + 1 => fun ds => fnL 3 (m__law_rows (FR__law_rows n)) ds
noncomputable def F__law_rows := FR__law_rows 4
noncomputable def m__law_last (R : List PyData → Option PyData) : Ds :=
    (sRet (dIf (dTest (dOp eqD (dOp ixD (dVar 0) (dK (.int 1))) (dTup (dK [])))) (dOp ixD (dOp ixD (dVar 0) (dK (.int 0))) (dUn negD (dK (.int 1)))) (dCall 1 R [] (dCons (dOp ixD (dOp ixD (dVar 0) (dK (.int 1))) (dUn negD (dK (.int 1)))) (dK [])))))
noncomputable def FR__law_last : Nat → List PyData → Option PyData
  | 0 => fun _ => none
  | n + 1 => fun ds => fnD 0 (m__law_last (FR__law_last n)) ds
noncomputable def F__law_last := FR__law_last 4
noncomputable def m_out_gapped_L1 : Ds :=
    (sAug 5 (fun i j => i + j) (dK (.int 1)))
noncomputable def m_out_gapped : Ds :=
    (sSeq (sDrop (dCall 1 F__check_gaps [] (dCons (dVar 0) (dK []))))
    (sSeq (sDrop (dCall 1 F_check_key [] (dCons (dVar 1) (dK []))))
    (sSeq (sIf (dNotT (dTru (dCall 2 F_has_key [] (dCons (dVar 0) (dCons (dVar 1) (dK []))))))
    sNever
    (fun e => some (.nx e)))
    (sSeq (sAsg (dCall 2 F_count_below [] (dCons (dVar 0) (dCons (dVar 1) (dK [])))) (dName 2))
    (sSeq (sAsgO (dLc (dItems (dVar 0)) (dRow 2 (dGs (dName 6) (dGs (dName 7) dNil))) (dK true) (dVar 7) [6, 7]) 3)
    (sSeq (sIf (dTest (dOp gtD (dIxV 3 (dVar 2)) (dK (.int 1))))
    (sSetIx 3 (dIxV 3 (dVar 2)) (dOp subD (dVar 2) (dK (.int 1))))
    (fun e => some (.nx e)))
    (sSeq (sAsg (dCall 2 F_without_key [] (dCons (dCall 2 F__with_heights [] (dCons (dVar 0) (dCons (dVar 3) (dK [])))) (dCons (dVar 1) (dK [])))) (dName 4))
    (sSeq (sAsgO (dLc (dItems (dVar 4)) (dRow 2 (dGs (dName 6) (dGs (dName 7) dNil))) (dK true) (dVar 7) [6, 7]) 3)
    (sSeq (sAsg (dK (.int 1)) (dName 5))
    (sSeq (sWhile (dTru (dCallM 3 2 F__fill_gap (dCons (dVar 5) (dK []))))
    m_out_gapped_L1)
    (sRet (dCall 2 F__with_heights [] (dCons (dVar 4) (dCons (dVar 3) (dK [])))))))))))))))
noncomputable def F_out_gapped (ds : List PyData) := fnD 6 m_out_gapped ds
noncomputable def m__law_woven_L1 (R : List PyData → List PyData → Option (PyData × List PyData)) : Ds :=
    (sAsg (dOp addD (dOp addD (dVar 2) (dFz (dLst (dCons (dVar 1) (dK []))))) (dCallM 0 2 R (dCons (dOp subD (dVar 1) (dK (.int 1))) (dK [])))) (dName 2))
noncomputable def m__law_woven (R : List PyData → List PyData → Option (PyData × List PyData)) : Ds :=
    (sSeq (sIf (dTest (dOp eqD (dVar 1) (dK (.int 0))))
    (sRet (dFz (dLst (dK []))))
    (fun e => some (.nx e)))
    (sSeq (sAsg (dCallM 0 2 R (dCons (dOp subD (dVar 1) (dK (.int 1))) (dK []))) (dName 2))
    (sSeq (sFor (dRg1 (dCons (dOp ixD (dFz (dLst (dCons (dK (.int 1)) (dCons (dK (.int 1)) (dCons (dK (.int 1)) (dCons (dK (.int 2)) (dCons (dK (.int 3)) (dK [])))))))) (dCallM 0 2 F__law_next (dCons (dK (.int 5)) (dK [])))) (dK []))) (dName 3)
    (m__law_woven_L1 R))
    (sRet (dVar 2)))))
noncomputable def FR__law_woven : Nat → List PyData → List PyData → Option (PyData × List PyData)
  | 0 => fun _ _ => none
  | n + 1 => fun xs ds => fnM 2 (m__law_woven (FR__law_woven n)) xs ds
noncomputable def F__law_woven := FR__law_woven 4
noncomputable def m__law_taken (R : List PyData → Option PyData) : Ds :=
    (sSeq (sAsg (dVar 0) (dRow 2 (dGs (dName 2) (dGs (dName 3) dNil))))
    (sSeq (sIf (dTest (dOp eqD (dVar 3) (dTup (dK []))))
    (sRet (dTup (dCons (dCb tupD (dCons (dFz (dLc (dItems (dVar 2)) (dName 6) (dTest (dOp neD (dVar 6) (dVar 1))) (dVar 6) [6])) (dK []))) (dCons (dTup (dK [])) (dK [])))))
    (fun e => some (.nx e)))
    (sSeq (sAsg (dCb lenD (dCons (dFz (dLc (dItems (dVar 2)) (dName 6) (dTest (dOp ltD (dVar 6) (dVar 1))) (dVar 6) [6])) (dK []))) (dName 4))
    (sSeq (sIf (dTest (dOp inXD (dVar 1) (dVar 2)))
    (sSeq (sAsg (dCall 1 F__law_last [] (dCons (dOp ixD (dVar 3) (dVar 4)) (dK []))) (dName 5))
    (sAsg (dTup (dCons (dOp addD (dOp addD (dSl (dVar 2) (dK none) (dPart (dVar 4))) (dTup (dCons (dVar 5) (dK [])))) (dSl (dVar 2) (dPart (dOp addD (dVar 4) (dK (.int 1)))) (dK none))) (dCons (dVar 5) (dK [])))) (dRow 2 (dGs (dName 2) (dGs (dName 1) dNil)))))
    (fun e => some (.nx e)))
    (sSeq (sAsg (dOp addD (dOp addD (dSl (dVar 3) (dK none) (dPart (dVar 4))) (dTup (dCons (dCall 2 R [] (dCons (dOp ixD (dVar 3) (dVar 4)) (dCons (dVar 1) (dK [])))) (dK [])))) (dSl (dVar 3) (dPart (dOp addD (dVar 4) (dK (.int 1)))) (dK none))) (dName 3))
    (sSeq (sIf (dTest (dOp neD (dOp ixD (dOp ixD (dVar 3) (dVar 4)) (dK (.int 0))) (dTup (dK []))))
    (sRet (dTup (dCons (dVar 2) (dCons (dVar 3) (dK [])))))
    (fun e => some (.nx e)))
    (sRet (dIf (dTest (dOp ltD (dVar 4) (dCb lenD (dCons (dVar 2) (dK []))))) (dCall 3 F__law_behind [] (dCons (dVar 2) (dCons (dVar 3) (dCons (dVar 4) (dK []))))) (dCall 3 F__law_ahead [] (dCons (dVar 2) (dCons (dVar 3) (dCons (dVar 4) (dK [])))))))))))))
noncomputable def FR__law_taken : Nat → List PyData → Option PyData
  | 0 => fun _ => none
  | n + 1 => fun ds => fnD 5 (m__law_taken (FR__law_taken n)) ds
noncomputable def F__law_taken := FR__law_taken 4
noncomputable def m__law_due : Ds :=
    (sSeq (sAsg (dCb maxD (dCons (dFz (dLc (dItems (dVar 0)) (dRow 2 (dGs (dName 4) (dGs (dName 5) dNil))) (dK true) (dVar 5) [4, 5])) (dK []))) (dName 2))
    (sSeq (sAsg (dCall 2 F__law_taken [] (dCons (dCall 2 F__law_node [] (dCons (dVar 0) (dCons (dVar 2) (dK [])))) (dCons (dVar 1) (dK [])))) (dName 3))
    (sSeq (sIf (dTest (dOp eqD (dOp ixD (dVar 3) (dK (.int 0))) (dTup (dK []))))
    (sRet (dIf (dTest (dOp neD (dOp ixD (dVar 3) (dK (.int 1))) (dTup (dK [])))) (dFz (dCallL 2 F__law_rows [] (dCons (dOp ixD (dOp ixD (dVar 3) (dK (.int 1))) (dK (.int 0))) (dCons (dOp subD (dVar 2) (dK (.int 1))) (dK []))))) (dFz (dLst (dK [])))))
    (fun e => some (.nx e)))
    (sRet (dFz (dCallL 2 F__law_rows [] (dCons (dVar 3) (dCons (dVar 2) (dK [])))))))))
noncomputable def F__law_due (ds : List PyData) := fnD 4 m__law_due ds
noncomputable def m__law_is_right : Ds :=
    (sSeq (sAsg (dCall 2 F_out_gapped [] (dCons (dCb tupD (dCons (dVar 0) (dK []))) (dCons (dVar 1) (dK [])))) (dName 2))
    (sSeq (sIf (dOrT (dTest (dOp neD (dVar 2) (dCb tupD (dCons (dCall 2 F__law_due [] (dCons (dVar 0) (dCons (dVar 1) (dK [])))) (dK []))))) (dNotT (dTru (dCall 3 F_is_gapped [] (dCons (dVar 2) (dCons (dK (.int 1)) (dCons (dK (.int 3)) (dK []))))))))
    (sRet (dK (.bool false)))
    (fun e => some (.nx e)))
    (sSeq (sIf (dTest (dOp neD (dFz (dLc (dItems (dVar 0)) (dRow 2 (dGs (dName 3) (dGs (dName 4) dNil))) (dTest (dOp neD (dVar 3) (dVar 1))) (dVar 3) [3, 4])) (dFz (dLc (dItems (dVar 2)) (dRow 2 (dGs (dName 3) (dGs (dName 4) dNil))) (dK true) (dVar 3) [3, 4]))))
    (sRet (dK (.bool false)))
    (fun e => some (.nx e)))
    (sRet (dOp eqD (dCall 2 F_out_gapped [] (dCons (dFz (dLc (dItems (dVar 0)) (dName 5) (dK true) (dFz (dCbL lstD (dCons (dVar 5) (dK [])))) [5])) (dCons (dVar 1) (dK [])))) (dVar 2))))))
noncomputable def F__law_is_right (ds : List PyData) := fnD 4 m__law_is_right ds
noncomputable def m_law_L1 : Ds :=
    (sIf (dNotT (dTru (dCall 2 F__law_is_right [] (dCons (dVar 3) (dCons (dVar 4) (dK []))))))
    (sRet (dK (.bool false)))
    (fun e => some (.nx e)))
noncomputable def m_law_L2 : Ds :=
    (sSeq (sAsg (dFz (dLc (dEnum (dCons (dVar 1) (dK []))) (dRow 2 (dGs (dName 9) (dGs (dName 2) dNil))) (dK true) (dTup (dCons (dOp subD (dOp mulD (dK (.int 3)) (dVar 9)) (dK (.int 8))) (dCons (dVar 2) (dK [])))) [9, 2])) (dName 3))
    (sFor (dItems (dVar 3)) (dRow 2 (dGs (dName 4) (dGs (dName 2) dNil)))
    m_law_L1))
noncomputable def m_law_L3 : Ds :=
    (sIf (dNotT (dTru (dCall 2 F__law_is_right [] (dCons (dVar 3) (dCons (dOp addD (dVar 7) (dOp mulD (dK (.int 2)) (dCallM 6 2 F__law_next (dCons (dCb lenD (dCons (dVar 3) (dK []))) (dK []))))) (dK []))))))
    (sRet (dK (.bool false)))
    (fun e => some (.nx e)))
noncomputable def m_law_L4 : Ds :=
    (sSeq (sAsgO (dCallL 1 F__law_source [] (dCons (dVar 5) (dK []))) 6)
    (sSeq (sAsg (dCallM 6 2 F__law_woven (dCons (dOp addD (dK (.int 1)) (dCallM 6 2 F__law_next (dCons (dK (.int 3)) (dK [])))) (dK []))) (dName 1))
    (sSeq (sAsg (dOp subD (dCallM 6 2 F__law_next (dCons (dOp powD (dK (.int 10)) (dK (.int 9))) (dK []))) (dOp powD (dK (.int 10)) (dK (.int 8)))) (dName 7))
    (sSeq (sAsg (dFz (dLc (dEnum (dCons (dVar 1) (dK []))) (dRow 2 (dGs (dName 9) (dGs (dName 2) dNil))) (dK true) (dTup (dCons (dOp addD (dVar 7) (dOp mulD (dK (.int 2)) (dVar 9))) (dCons (dVar 2) (dK [])))) [9, 2])) (dName 3))
    (sFor (dRg1 (dCons (dK (.int 8)) (dK []))) (dName 8)
    m_law_L3)))))
noncomputable def m_law : Ds :=
    (sSeq (sIf (dTest (dOp neD (dCall 2 F_out_gapped [] (dCons (dTup (dCons (dTup (dCons (dK (.int 5)) (dCons (dK (.int 1)) (dK [])))) (dK []))) (dCons (dK (.int 5)) (dK [])))) (dTup (dK []))))
    (sRet (dK (.bool false)))
    (fun e => some (.nx e)))
    (sSeq (sFor (dItems (dCall 1 F__law_all [] (dCons (dK (.int 9)) (dK [])))) (dName 1)
    m_law_L2)
    (sSeq (sFor (dItems (dSl (dOp addD (dVar 0) (dFz (dLst (dCons (dK (.int 0)) (dK []))))) (dK none) (dPart (dK (.int 4))))) (dName 5)
    m_law_L4)
    (sRet (dK (.bool true))))))
noncomputable def F_law (ds : List PyData) := fnD 9 m_law ds
end Tk
end

section
set_option Elab.async false
set_option linter.all false
set_option maxRecDepth 100000
set_option maxHeartbeats 1000000
/-! Each def does what it means. -/
namespace Tk
open PySem PySem.Spec PyProof.Rows L2 Evl Tb Fd
def topS (i : Nat) : Stmt := PySem.Challenge.pw_tosslanes_k67_whole_keys_taken_out.main.body.getD i (.Pass ⟨0, 0, 0, 0⟩)
section
variable {P : Program} {w : World} {K : PySem.W.Frag} {mg : Str → Option Value} {base : Heap} {CX : CXT} {f : Addr} {fd : FuncData}
abbrev s_is_whole : Stmt := topS 7
abbrev n_is_whole : List Str := ["thing"]
theorem sc_is_whole : FnScope n_is_whole ["thing"] (defScope s_is_whole) := ⟨rfl, rfl, rfl, by decide +kernel, rfl, by decide +kernel, by decide +kernel⟩
theorem H_is_whole (bl : Bm mg) (nx : NoX CX) (F : FunD K "is_whole" "is_whole" (defArgs s_is_whole) (defBody s_is_whole) (defScope s_is_whole) [] [] f fd) (hm : mg "is_whole" = some (.ref f)) :
    Has P w K mg base CX "is_whole" 1 ["thing"] [] (spF K 1 F_is_whole) := by
  refine has_mk F hm sc_is_whole (spF_len rfl) (fun _ _ _ _ _ _ us hl => match us, hl with | [_], _ => rfl) fun cdv A outer s H vs Q E hr h => ?_
  refine ⟨_, (pss_one (ps_ret (pe_and (pe_callB (ck_isi (K := K) rfl) (by rfl) bl.isinstance bb_isinstance (pa_cons (pv 0) (pa_cons (pe_bltn (v := .ty "int") (by rfl) bl.int bb_int rfl) pa_nil))) (pe_one (pe_not (pe_callB (ck_isi (K := K) rfl) (by rfl) bl.isinstance bb_isinstance (pa_cons (pv 0) (pa_cons (pe_bltn (v := .ty "bool") (by rfl) bl.bool bb_bool rfl) pa_nil)))))))), body_F (n := 0) ?_ rfl h⟩
  exact (ss_ret (se_and (se_isi se_var) (se_not (se_isi se_var))))
abbrev s_is_row : Stmt := topS 8
abbrev n_is_row : List Str := ["thing"]
theorem sc_is_row : FnScope n_is_row ["thing"] (defScope s_is_row) := ⟨rfl, rfl, rfl, by decide +kernel, rfl, by decide +kernel, by decide +kernel⟩
theorem H_is_row (bl : Bm mg) (nx : NoX CX) (F : FunD K "is_row" "is_row" (defArgs s_is_row) (defBody s_is_row) (defScope s_is_row) [] [] f fd) (hm : mg "is_row" = some (.ref f)) :
    Has P w K mg base CX "is_row" 1 ["thing"] [] (spF K 1 F_is_row) := by
  refine has_mk F hm sc_is_row (spF_len rfl) (fun _ _ _ _ _ _ us hl => match us, hl with | [_], _ => rfl) fun cdv A outer s H vs Q E hr h => ?_
  refine ⟨_, (pss_one (ps_ret (pe_callB (ck_isiT (K := K) rfl) (by rfl) bl.isinstance bb_isinstance (pa_cons (pv 0) (pa_cons (pe_tup (pa_cons (pe_bltn (v := .ty "list") (by rfl) bl.list bb_list rfl) (pa_cons (pe_bltn (v := .ty "tuple") (by rfl) bl.tuple bb_tuple rfl) pa_nil))) pa_nil))))), body_F (n := 0) ?_ rfl h⟩
  exact (ss_ret (se_isi2 se_var))
abbrev s_tallest : Stmt := topS 14
abbrev n_tallest : List Str := ["towers", "key", "height"]
theorem sc_tallest : FnScope n_tallest ["towers"] (defScope s_tallest) := ⟨rfl, rfl, rfl, by decide +kernel, rfl, by decide +kernel, by decide +kernel⟩
theorem H_tallest (bl : Bm mg) (nx : NoX CX) (F : FunD K "tallest" "tallest" (defArgs s_tallest) (defBody s_tallest) (defScope s_tallest) [] [] f fd) (hm : mg "tallest" = some (.ref f)) :
    Has P w K mg base CX "tallest" 1 ["towers"] [] (spF K 1 F_tallest) := by
  refine has_mk F hm sc_tallest (spF_len rfl) (fun _ _ _ _ _ _ us hl => match us, hl with | [_], _ => rfl) fun cdv A outer s H vs Q E hr h => ?_
  refine ⟨_, (pss_one (ps_ret (pe_callBK (ck_maxDfU (K := K) rfl rfl hr.units) (by rfl) bl.max bb_max (pa_cons (pe_lc (own := [("key", 1), ("height", 2)]) (by rfl) sc_tallest.nd (pik_row (K := K) rfl (pv 0)) (blkOk_by (own := [("key", 1), ("height", 2)]) (N := n_tallest) (sc := defScope s_tallest) (by decide +kernel)) (fun _ _ _ _ _ => (pgk_row (K := K) (n := 2) rfl rfl (pgs_cons (pg_name (i := 1) sc_tallest.nd rfl (Or.inl rfl) (Or.inr rfl)) (pgs_cons (pg_name (i := 2) sc_tallest.nd rfl (Or.inl rfl) (Or.inr rfl)) pgs_nil rfl) rfl) rfl rfl)) (fun _ _ _ _ _ => pts_nil) (fun _ _ _ _ _ => (pv 2))) pa_nil) (pk_cons pe_int pk_nil)))), body_F (n := 2) ?_ rfl h⟩
  exact (ss_ret (se_maxDf (sa_cons (se_fz (sl_lc (si_row se_var) (sg_row (sgs_cons sg_name (sgs_cons sg_name sgs_nil))) st_yes se_var (by decide))) sa_nil) (sa_cons se_int sa_nil)))
abbrev s_as_tuples : Stmt := topS 15
abbrev n_as_tuples : List Str := ["towers", "key", "height"]
theorem sc_as_tuples : FnScope n_as_tuples ["towers"] (defScope s_as_tuples) := ⟨rfl, rfl, rfl, by decide +kernel, rfl, by decide +kernel, by decide +kernel⟩
theorem H_as_tuples (bl : Bm mg) (nx : NoX CX) (F : FunD K "as_tuples" "as_tuples" (defArgs s_as_tuples) (defBody s_as_tuples) (defScope s_as_tuples) [] [] f fd) (hm : mg "as_tuples" = some (.ref f)) :
    Has P w K mg base CX "as_tuples" 1 ["towers"] [] (spF K 1 F_as_tuples) := by
  refine has_mk F hm sc_as_tuples (spF_len rfl) (fun _ _ _ _ _ _ us hl => match us, hl with | [_], _ => rfl) fun cdv A outer s H vs Q E hr h => ?_
  refine ⟨_, (pss_one (ps_ret (pe_callTy (ck_tupU (K := K) rfl) (by rfl) bl.tuple bb_tuple (pa_cons (pe_lc (own := [("key", 1), ("height", 2)]) (by rfl) sc_as_tuples.nd (pik_row (K := K) rfl (pv 0)) (blkOk_by (own := [("key", 1), ("height", 2)]) (N := n_as_tuples) (sc := defScope s_as_tuples) (by decide +kernel)) (fun _ _ _ _ _ => (pgk_row (K := K) (n := 2) rfl rfl (pgs_cons (pg_name (i := 1) sc_as_tuples.nd rfl (Or.inl rfl) (Or.inr rfl)) (pgs_cons (pg_name (i := 2) sc_as_tuples.nd rfl (Or.inl rfl) (Or.inr rfl)) pgs_nil rfl) rfl) rfl rfl)) (fun _ _ _ _ _ => pts_nil) (fun _ _ _ _ _ => (pe_tup (pa_cons (pv 1) (pa_cons (pv 2) pa_nil))))) pa_nil)))), body_F (n := 2) ?_ rfl h⟩
  exact (ss_ret (se_tupC (sa_cons (se_fz (sl_lc (si_row se_var) (sg_row (sgs_cons sg_name (sgs_cons sg_name sgs_nil))) st_yes (se_tup (sa_cons se_var (sa_cons se_var sa_nil))) (by decide))) sa_nil)))
abbrev s_count_below : Stmt := topS 16
abbrev n_count_below : List Str := ["towers", "key", "low", "high", "middle"]
theorem sc_count_below : FnScope n_count_below ["towers", "key"] (defScope s_count_below) := ⟨rfl, rfl, rfl, by decide +kernel, rfl, by decide +kernel, by decide +kernel⟩
theorem H_count_below (bl : Bm mg) (nx : NoX CX) (F : FunD K "count_below" "count_below" (defArgs s_count_below) (defBody s_count_below) (defScope s_count_below) [] [] f fd) (hm : mg "count_below" = some (.ref f)) :
    Has P w K mg base CX "count_below" 1 ["towers", "key"] [] (spF K 2 F_count_below) := by
  refine has_mk F hm sc_count_below (spF_len rfl) (fun _ _ _ _ _ _ us hl => match us, hl with | [_, _], _ => rfl) fun cdv A outer s H vs Q E hr h => ?_
  refine ⟨_, (pss_cons (ps_set (i := 2) sc_count_below.nd rfl (by first | exact .inl rfl | exact .inr rfl) pe_int) (pss_cons (ps_set (i := 3) sc_count_below.nd rfl (by first | exact .inl rfl | exact .inr rfl) (pe_callB (ck_lenU (K := K) rfl) (by rfl) bl.len bb_len (pa_cons (pv 0) pa_nil))) (pss_cons (ps_while PassesOwn.never (pt_cmpR op_ltU (pv 2) (pv 3) (nomark _)) (pss_cons (ps_set (i := 4) sc_count_below.nd rfl (by first | exact .inl rfl | exact .inr rfl) (pe_op op_fdivW (pe_op (ok_addU (K := K) rfl) (pv 2) (pv 3)) pe_int)) (pss_one (ps_if (pt_cmpR op_ltU (pe_ix (ixk_seq (K := K) rfl) (pe_ix (ixk_seq (K := K) rfl) (pv 0) (pv 4) (fun _ _ => rfl)) pe_int (fun _ _ => rfl)) (pv 1) (nomark _)) (pss_one (ps_set (i := 2) sc_count_below.nd rfl (by first | exact .inl rfl | exact .inr rfl) (pe_op (ok_addU (K := K) rfl) (pv 4) pe_int))) (pss_one (ps_set (i := 3) sc_count_below.nd rfl (by first | exact .inl rfl | exact .inr rfl) (pv 4))))))) (pss_one (ps_ret (pv 2)))))), body_F (n := 3) ?_ rfl h⟩
  exact (ss_seq (ss_asg se_int sg_name) (ss_seq (ss_asg (se_len (sa_cons se_var sa_nil)) sg_name) (ss_seq (ss_while (st_test (se_lt se_var se_var)) (ss_seq (ss_asg (se_div (se_add se_var se_var) se_int) sg_name) (ss_if (st_test (se_lt (se_ix (se_ix se_var se_var) se_int) se_var)) (ss_asg (se_add se_var se_int) sg_name) (ss_asg se_var sg_name)))) (ss_ret se_var))))
abbrev s__gaps : Stmt := topS 30
abbrev n__gaps : List Str := ["towers", "level", "found", "gap", "key", "height"]
theorem sc__gaps : FnScope n__gaps ["towers", "level"] (defScope s__gaps) := ⟨rfl, rfl, rfl, by decide +kernel, rfl, by decide +kernel, by decide +kernel⟩
theorem H__gaps (bl : Bm mg) (nx : NoX CX) (F : FunD K "_gaps" "_gaps" (defArgs s__gaps) (defBody s__gaps) (defScope s__gaps) [] [] f fd) (hm : mg "_gaps" = some (.ref f)) :
    Has P w K mg base CX "_gaps" 1 ["towers", "level"] [] (spL K 2 F__gaps) := by
  refine has_mk F hm sc__gaps (spL_len rfl) (fun _ _ _ _ _ _ us hl => match us, hl with | [_, _], _ => rfl) fun cdv A outer s H vs Q E hr h => ?_
  refine ⟨_, (pss_cons (ps_set (i := 2) sc__gaps.nd rfl (by first | exact .inl rfl | exact .inr rfl) (pe_lst pa_nil)) (pss_cons (ps_set (i := 3) sc__gaps.nd rfl (by first | exact .inl rfl | exact .inr rfl) pe_int) (pss_cons (ps_for PassesOwn.never rfl (pik_row (K := K) rfl (pv 0)) (pgk_row (K := K) (n := 2) rfl rfl (pgs_cons (pg_name (i := 4) sc__gaps.nd rfl (by first | exact .inl rfl | exact .inr rfl)) (pgs_cons (pg_name (i := 5) sc__gaps.nd rfl (by first | exact .inl rfl | exact .inr rfl)) pgs_nil))) (pss_one (ps_if (pt_cmpR op_gtU (pv 5) (pv 1) (nomark _)) (pss_cons (ps_expr (pe_bm PySem.F.plainAttrs_list PySem.F.slot_list_append PySem.F.type_list_append mt_append (pv 2) (pa_cons (pv 3) pa_nil))) (pss_one (ps_set (i := 3) sc__gaps.nd rfl (by first | exact .inl rfl | exact .inr rfl) pe_int))) (pss_one (ps_if (pt_cmpR (ok_eqD (K := K) rfl hr.units) (pv 5) (pv 1) (nomark _)) (pss_one (ps_aug (i := 3) sc__gaps.nd rfl (by first | exact .inl rfl | exact .inr rfl) pe_int ip_add)) pss_nil))))) (pss_one (ps_ret (pe_op (ok_addU (K := K) rfl) (pv 2) (pe_lst (pa_cons (pv 3) pa_nil)))))))), body_L (n := 4) ?_ rfl h⟩
  exact (ss_seq (ss_asgO (sl_lst sa_nil)) (ss_seq (ss_asg se_int sg_name) (ss_seq (ss_for (si_row se_var) (sg_row (sgs_cons sg_name (sgs_cons sg_name sgs_nil))) (ss_if (st_test (se_gt se_var se_var)) (ss_seq (ss_meth mf_app (sa_cons se_var sa_nil)) (ss_asg se_int sg_name)) (ss_if (st_test (se_eq se_var se_var)) (ss_aug se_int) ss_next))) (ss_retL (sl_add se_var (se_fz (sl_lst (sa_cons se_var sa_nil))))))))
abbrev s__with_heights : Stmt := topS 32
abbrev n__with_heights : List Str := ["towers", "heights", "pair", "height"]
theorem sc__with_heights : FnScope n__with_heights ["towers", "heights"] (defScope s__with_heights) := ⟨rfl, rfl, rfl, by decide +kernel, rfl, by decide +kernel, by decide +kernel⟩
theorem H__with_heights (bl : Bm mg) (nx : NoX CX) (F : FunD K "_with_heights" "_with_heights" (defArgs s__with_heights) (defBody s__with_heights) (defScope s__with_heights) [] [] f fd) (hm : mg "_with_heights" = some (.ref f)) :
    Has P w K mg base CX "_with_heights" 1 ["towers", "heights"] [] (spF K 2 F__with_heights) := by
  refine has_mk F hm sc__with_heights (spF_len rfl) (fun _ _ _ _ _ _ us hl => match us, hl with | [_, _], _ => rfl) fun cdv A outer s H vs Q E hr h => ?_
  refine ⟨_, (pss_one (ps_ret (pe_callTy (ck_tupU (K := K) rfl) (by rfl) bl.tuple bb_tuple (pa_cons (pe_lc (own := [("pair", 2), ("height", 3)]) (by rfl) sc__with_heights.nd (pi_zipU (by rfl) bl.zip (pa_cons (pv 0) (pa_cons (pv 1) pa_nil))) (blkOk_by (own := [("pair", 2), ("height", 3)]) (N := n__with_heights) (sc := defScope s__with_heights) (by decide +kernel)) (fun _ _ _ _ _ => (pgk_row (K := K) (n := 2) rfl rfl (pgs_cons (pg_name (i := 2) sc__with_heights.nd rfl (Or.inl rfl) (Or.inr rfl)) (pgs_cons (pg_name (i := 3) sc__with_heights.nd rfl (Or.inl rfl) (Or.inr rfl)) pgs_nil rfl) rfl) rfl rfl)) (fun _ _ _ _ _ => pts_nil) (fun _ _ _ _ _ => (pe_tup (pa_cons (pe_ix (ixk_seq (K := K) rfl) (pv 2) pe_int (fun _ _ => rfl)) (pa_cons (pv 3) pa_nil))))) pa_nil)))), body_F (n := 2) ?_ rfl h⟩
  exact (ss_ret (se_tupC (sa_cons (se_fz (sl_lc (si_zipU (sa_cons se_var (sa_cons se_var sa_nil))) (sg_row (sgs_cons sg_name (sgs_cons sg_name sgs_nil))) st_yes (se_tup (sa_cons (se_ix se_var se_int) (sa_cons se_var sa_nil))) (by decide))) sa_nil)))
abbrev s__gap_between : Stmt := topS 33
abbrev n__gap_between : List Str := ["heights", "low", "high", "level", "at"]
theorem sc__gap_between : FnScope n__gap_between ["heights", "low", "high", "level"] (defScope s__gap_between) := ⟨rfl, rfl, rfl, by decide +kernel, rfl, by decide +kernel, by decide +kernel⟩
theorem H__gap_between (bl : Bm mg) (nx : NoX CX) (F : FunD K "_gap_between" "_gap_between" (defArgs s__gap_between) (defBody s__gap_between) (defScope s__gap_between) [] [] f fd) (hm : mg "_gap_between" = some (.ref f)) :
    Has P w K mg base CX "_gap_between" 1 ["heights", "low", "high", "level"] [] (spL K 4 F__gap_between) := by
  refine has_mk F hm sc__gap_between (spL_len rfl) (fun _ _ _ _ _ _ us hl => match us, hl with | [_, _, _, _], _ => rfl) fun cdv A outer s H vs Q E hr h => ?_
  refine ⟨_, (pss_one (ps_ret (pe_lc (own := [("at", 4)]) (by rfl) sc__gap_between.nd (pi_range2 rfl bl.range (pa_cons (pe_op (ok_addU (K := K) rfl) (pv 1) pe_int) (pa_cons (pv 2) pa_nil))) (blkOk_by (own := [("at", 4)]) (N := n__gap_between) (sc := defScope s__gap_between) (by decide +kernel)) (fun _ _ _ _ _ => (pg_name (i := 4) sc__gap_between.nd rfl (Or.inl rfl) (Or.inr rfl))) (fun _ _ _ _ _ => (pts_one (pt_cmpR (ok_eqD (K := K) rfl hr.units) (pe_ix (ixk_seq (K := K) rfl) (pv 0) (pv 4) (fun _ _ => rfl)) (pv 3) (nomark _)))) (fun _ _ _ _ _ => (pv 4))))), body_L (n := 1) ?_ rfl h⟩
  exact (ss_retL (sl_lc (si_rg2 (sa_cons (se_add se_var se_int) (sa_cons se_var sa_nil))) sg_name (st_test (se_eq (se_ix se_var se_var) se_var)) se_var (by decide)))
abbrev s__law_source : Stmt := topS 38
abbrev n__law_source : List Str := ["_law_cell"]
theorem sc__law_source : FnScope n__law_source ["_law_cell"] (defScope s__law_source) := ⟨rfl, rfl, rfl, by decide +kernel, rfl, by decide +kernel, by decide +kernel⟩
theorem H__law_source (bl : Bm mg) (nx : NoX CX) (F : FunD K "_law_source" "_law_source" (defArgs s__law_source) (defBody s__law_source) (defScope s__law_source) [] [] f fd) (hm : mg "_law_source" = some (.ref f)) :
    Has P w K mg base CX "_law_source" 1 ["_law_cell"] [] (spL K 1 F__law_source) := by
  refine has_mk F hm sc__law_source (spL_len rfl) (fun _ _ _ _ _ _ us hl => match us, hl with | [_], _ => rfl) fun cdv A outer s H vs Q E hr h => ?_
  refine ⟨_, (pss_cons (ps_set (i := 0) sc__law_source.nd rfl (by first | exact .inl rfl | exact .inr rfl) (pe_ifExp (pt_cmpR op_geU (pv 0) pe_int (nomark _)) (pv 0) (pe_op op_sub (pe_op op_sub pe_int (pe_op (ok_mulU (K := K) rfl) pe_int (pv 0))) pe_int))) (pss_one (ps_ret (pe_lst (pa_cons (pe_op (ok_mulU (K := K) rfl) (pv 0) (pe_callTy call_intU (by rfl) bl.int bb_int (pa_cons (pe_cmpR op_geU (pv 0) (pe_op op_pow pe_int pe_int) (nomark _)) pa_nil))) (pa_cons (pe_op op_mod (pe_callTy call_intU (by rfl) bl.int bb_int (pa_cons (pv 0) pa_nil)) pe_int) (pa_cons pe_int pa_nil))))))), body_L (n := 0) ?_ rfl h⟩
  exact (ss_seq (ss_asg (se_if (st_test (se_ge se_var se_int)) se_var (se_sub (se_sub se_int (se_mul se_int se_var)) se_int)) sg_name) (ss_retL (sl_lst (sa_cons (se_mul se_var (se_intC (sa_cons (se_ge se_var (se_pow se_int se_int)) sa_nil))) (sa_cons (se_mod (se_intC (sa_cons se_var sa_nil)) se_int) (sa_cons se_int sa_nil))))))
abbrev s__law_next : Stmt := topS 39
abbrev n__law_next : List Str := ["_law_source_here", "_law_many", "_law_found", "_law_number"]
theorem sc__law_next : FnScope n__law_next ["_law_source_here", "_law_many"] (defScope s__law_next) := ⟨rfl, rfl, rfl, by decide +kernel, rfl, by decide +kernel, by decide +kernel⟩
theorem H__law_next (bl : Bm mg) (nx : NoX CX) (F : FunD K "_law_next" "_law_next" (defArgs s__law_next) (defBody s__law_next) (defScope s__law_next) [] [] f fd) (hm : mg "_law_next" = some (.ref f)) :
    Has P w K mg base CX "_law_next" 1 ["_law_source_here", "_law_many"] [] (spM K 2 F__law_next) := by
  refine has_mk F hm sc__law_next (spM_len rfl) (fun _ _ _ _ _ _ us hl => match us, hl with | [_, _], _ => rfl) fun cdv A outer s H vs Q E hr h => ?_
  refine ⟨_, (pss_cons (ps_if (pt_cmpR op_gtU (pe_ix (ixk_seq (K := K) rfl) (pv 0) pe_int (fun _ _ => rfl)) pe_int (nomark _)) (pss_cons (ps_set (i := 2) sc__law_next.nd rfl (by first | exact .inl rfl | exact .inr rfl) (pe_op op_mod (pe_callTy call_intU (by rfl) bl.int bb_int (pa_cons (pe_ix (ixk_seq (K := K) rfl) (pv 0) pe_int (fun _ _ => rfl)) pa_nil)) (pv 1))) (pss_cons (ps_asg (pe_op op_fdivW (pe_ix (ixk_seq (K := K) rfl) (pv 0) pe_int (fun _ _ => rfl)) (pv 1)) (pg_sub (pv 0) pe_int set_list)) (pss_one (ps_ret (pv 2))))) pss_nil) (pss_cons (ps_asg (pe_op (ok_addU (K := K) rfl) (pe_ix (ixk_seq (K := K) rfl) (pv 0) pe_int (fun _ _ => rfl)) pe_int) (pg_sub (pv 0) pe_int set_list)) (pss_cons (ps_set (i := 3) sc__law_next.nd rfl (by first | exact .inl rfl | exact .inr rfl) (pe_op op_mod (pe_callTy call_intU (by rfl) bl.int bb_int (pa_cons (pe_op (ok_addU (K := K) rfl) (pe_op (ok_addU (K := K) rfl) (pe_ix (ixk_seq (K := K) rfl) (pv 0) pe_int (fun _ _ => rfl)) (pe_op (ok_mulU (K := K) rfl) pe_int (pe_ix (ixk_seq (K := K) rfl) (pv 0) pe_int (fun _ _ => rfl)))) pe_int) pa_nil)) pe_int)) (pss_cons (ps_set (i := 3) sc__law_next.nd rfl (by first | exact .inl rfl | exact .inr rfl) (pe_op op_mod (pe_callTy call_intU (by rfl) bl.int bb_int (pa_cons (pe_op (ok_mulU (K := K) rfl) (pv 3) pe_int) pa_nil)) pe_int)) (pss_cons (ps_set (i := 3) sc__law_next.nd rfl (by first | exact .inl rfl | exact .inr rfl) (pe_op op_mod (pe_callTy call_intU (by rfl) bl.int bb_int (pa_cons (pe_op (ok_mulU (K := K) rfl) (pv 3) (pe_op (ok_addU (K := K) rfl) (pe_op op_fdivW (pv 3) pe_int) pe_int)) pa_nil)) pe_int)) (pss_cons (ps_set (i := 3) sc__law_next.nd rfl (by first | exact .inl rfl | exact .inr rfl) (pe_op op_mod (pe_callTy call_intU (by rfl) bl.int bb_int (pa_cons (pe_op (ok_mulU (K := K) rfl) (pv 3) (pe_op (ok_addU (K := K) rfl) (pe_op op_fdivW (pv 3) pe_int) pe_int)) pa_nil)) pe_int)) (pss_one (ps_ret (pe_op op_mod (pe_callTy call_intU (by rfl) bl.int bb_int (pa_cons (pe_op op_fdivW (pv 3) pe_int) pa_nil)) (pv 1)))))))))), body_M (n := 2) ?_ rfl h⟩
  exact (ss_seq (ss_if (st_test (se_gt (se_ixV se_int) se_int)) (ss_seq (ss_asg (se_mod (se_intC (sa_cons (se_ixV se_int) sa_nil)) se_var) sg_name) (ss_seq (ss_setIx (se_div (se_ixV se_int) se_var) se_int) (ss_ret se_var))) ss_next) (ss_seq (ss_setIx (se_add (se_ixV se_int) se_int) se_int) (ss_seq (ss_asg (se_mod (se_intC (sa_cons (se_add (se_add (se_ixV se_int) (se_mul se_int (se_ixV se_int))) se_int) sa_nil)) se_int) sg_name) (ss_seq (ss_asg (se_mod (se_intC (sa_cons (se_mul se_var se_int) sa_nil)) se_int) sg_name) (ss_seq (ss_asg (se_mod (se_intC (sa_cons (se_mul se_var (se_add (se_div se_var se_int) se_int)) sa_nil)) se_int) sg_name) (ss_seq (ss_asg (se_mod (se_intC (sa_cons (se_mul se_var (se_add (se_div se_var se_int) se_int)) sa_nil)) se_int) sg_name) (ss_ret (se_mod (se_intC (sa_cons (se_div se_var se_int) sa_nil)) se_var))))))))
abbrev s__law_all : Stmt := topS 40
abbrev n__law_all : List Str := ["_law_utmost", "_law_found", "_law_below", "_law_level", "_law_waiting", "_law_here", "_law_turn", "_law_later", "_law_row", "_law_more"]
theorem sc__law_all : FnScope n__law_all ["_law_utmost"] (defScope s__law_all) := ⟨rfl, rfl, rfl, by decide +kernel, rfl, by decide +kernel, by decide +kernel⟩
theorem H__law_all (bl : Bm mg) (nx : NoX CX) (F : FunD K "_law_all" "_law_all" (defArgs s__law_all) (defBody s__law_all) (defScope s__law_all) [] [] f fd) (hm : mg "_law_all" = some (.ref f)) :
    Has P w K mg base CX "_law_all" 1 ["_law_utmost"] [] (spF K 1 F__law_all) := by
  refine has_mk F hm sc__law_all (spF_len rfl) (fun _ _ _ _ _ _ us hl => match us, hl with | [_], _ => rfl) fun cdv A outer s H vs Q E hr h => ?_
  refine ⟨_, (pss_cons (ps_par (i := 1) (j := 2) (by rfl) sc__law_all.nd rfl rfl (by decide) rfl rfl (pa_cons (pe_lst pa_nil) (pa_cons (pe_lst (pa_cons (pe_tup pa_nil) pa_nil)) pa_nil)) (by rfl)) (pss_cons (ps_for PassesOwn.never rfl (pik_row (K := K) rfl (pe_tup (pa_cons pe_int (pa_cons pe_int (pa_cons pe_int pa_nil))))) (pg_name (i := 3) sc__law_all.nd rfl (by first | exact .inl rfl | exact .inr rfl)) (pss_cons (ps_par (i := 4) (j := 5) (by rfl) sc__law_all.nd rfl rfl (by decide) rfl rfl (pa_cons (pv 2) (pa_cons (pe_lst pa_nil) pa_nil)) (by rfl)) (pss_cons (ps_for PassesOwn.never rfl (pi_range1 rfl bl.range (pa_cons pe_int pa_nil)) (pg_name (i := 6) sc__law_all.nd rfl (by first | exact .inl rfl | exact .inr rfl)) (pss_cons (ps_set (i := 7) sc__law_all.nd rfl (by first | exact .inl rfl | exact .inr rfl) (pe_lst pa_nil)) (pss_cons (ps_for PassesOwn.never rfl (pik_row (K := K) rfl (pv 4)) (pg_name (i := 8) sc__law_all.nd rfl (by first | exact .inl rfl | exact .inr rfl)) (pss_one (ps_expr (pe_bm PySem.F.plainAttrs_list PySem.F.slot_list_extend PySem.F.type_list_extend (mk_extU (K := K) rfl) (pv 7) (pa_cons (pe_lc (own := [("_law_more", 9)]) (by rfl) sc__law_all.nd (pik_row (K := K) rfl (pv 2)) (blkOk_by (own := [("_law_more", 9)]) (N := n__law_all) (sc := defScope s__law_all) (by decide +kernel)) (fun _ _ _ _ _ => (pg_name (i := 9) sc__law_all.nd rfl (Or.inl rfl) (Or.inr rfl))) (fun _ _ _ _ _ => (pts_one (pt_cmpR op_ltU (pe_op (ok_addU (K := K) rfl) (pe_callB (ck_lenU (K := K) rfl) (by rfl) bl.len bb_len (pa_cons (pv 8) pa_nil)) (pe_callB (ck_lenU (K := K) rfl) (by rfl) bl.len bb_len (pa_cons (pv 9) pa_nil))) (pv 0) (nomark _)))) (fun _ _ _ _ _ => (pe_op (ok_addU (K := K) rfl) (pe_op (ok_addU (K := K) rfl) (pv 8) (pe_tup (pa_cons (pv 3) pa_nil))) (pv 9)))) pa_nil))))) (pss_one (ps_par (i := 4) (j := 5) (by rfl) sc__law_all.nd rfl rfl (by decide) rfl rfl (pa_cons (pv 7) (pa_cons (pe_op (ok_addU (K := K) rfl) (pv 5) (pv 7)) pa_nil)) (by rfl)))))) (pss_one (ps_par (i := 1) (j := 2) (by rfl) sc__law_all.nd rfl rfl (by decide) rfl rfl (pa_cons (pe_op (ok_addU (K := K) rfl) (pv 1) (pv 5)) (pa_cons (pv 5) pa_nil)) (by rfl)))))) (pss_one (ps_ret (pv 1))))), body_F (n := 9) ?_ rfl h⟩
  exact (ss_seq (ss_par (sa_cons (se_fz (sl_lst sa_nil)) (sa_cons (se_fz (sl_lst (sa_cons (se_tup sa_nil) sa_nil))) sa_nil))) (ss_seq (ss_for (si_row (se_tup (sa_cons se_int (sa_cons se_int (sa_cons se_int sa_nil))))) sg_name (ss_seq (ss_par (sa_cons se_var (sa_cons (se_fz (sl_lst sa_nil)) sa_nil))) (ss_seq (ss_for (si_rg1 (sa_cons se_int sa_nil)) sg_name (ss_seq (ss_asgO (sl_lst sa_nil)) (ss_seq (ss_for (si_row se_var) sg_name (ss_extL (sl_lc (si_row se_var) sg_name (st_test (se_lt (se_add (se_len (sa_cons se_var sa_nil)) (se_len (sa_cons se_var sa_nil))) se_var)) (se_add (se_add se_var (se_tup (sa_cons se_var sa_nil))) se_var) (by decide)))) (ss_par (sa_cons se_var (sa_cons (se_add se_var se_var) sa_nil)))))) (ss_par (sa_cons (se_add se_var se_var) (sa_cons se_var sa_nil)))))) (ss_ret se_var)))
abbrev s__law_behind : Stmt := topS 44
abbrev n__law_behind : List Str := ["_law_keys", "_law_parts", "_law_at", "_law_bare", "_law_others", "_law_rest", "_law_pair", "_law_one"]
theorem sc__law_behind : FnScope n__law_behind ["_law_keys", "_law_parts", "_law_at"] (defScope s__law_behind) := ⟨rfl, rfl, rfl, by decide +kernel, rfl, by decide +kernel, by decide +kernel⟩
theorem H__law_behind (bl : Bm mg) (nx : NoX CX) (F : FunD K "_law_behind" "_law_behind" (defArgs s__law_behind) (defBody s__law_behind) (defScope s__law_behind) [] [] f fd) (hm : mg "_law_behind" = some (.ref f)) :
    Has P w K mg base CX "_law_behind" 1 ["_law_keys", "_law_parts", "_law_at"] [] (spF K 3 F__law_behind) := by
  refine has_mk F hm sc__law_behind (spF_len rfl) (fun _ _ _ _ _ _ us hl => match us, hl with | [_, _, _], _ => rfl) fun cdv A outer s H vs Q E hr h => ?_
  refine ⟨_, (pss_cons (ps_asg (pe_tup (pa_cons (pe_ix (ixk_seq (K := K) rfl) (pe_ix (ixk_seq (K := K) rfl) (pv 1) (pv 2) (fun _ _ => rfl)) pe_int (fun _ _ => rfl)) (pa_cons (pe_ix (ixk_seq (K := K) rfl) (pv 1) (pe_op (ok_addU (K := K) rfl) (pv 2) pe_int) (fun _ _ => rfl)) pa_nil))) (pgk_row (K := K) (n := 2) rfl rfl (pgs_cons (pg_name (i := 3) sc__law_behind.nd rfl (by first | exact .inl rfl | exact .inr rfl)) (pgs_cons (pgk_row (K := K) (n := 2) rfl rfl (pgs_cons (pg_name (i := 4) sc__law_behind.nd rfl (by first | exact .inl rfl | exact .inr rfl)) (pgs_cons (pg_name (i := 5) sc__law_behind.nd rfl (by first | exact .inl rfl | exact .inr rfl)) pgs_nil))) pgs_nil)))) (pss_cons (ps_if (pt_cmpR op_gtU (pe_callB (ck_lenU (K := K) rfl) (by rfl) bl.len bb_len (pa_cons (pv 4) pa_nil)) pe_int (nomark _)) (pss_cons (ps_set (i := 6) sc__law_behind.nd rfl (by first | exact .inl rfl | exact .inr rfl) (pe_tup (pa_cons (pe_tup (pa_cons (pe_slice (slk_sliceU (K := K) rfl) (pv 0) (po_some (pv 2)) (po_some (pe_op (ok_addU (K := K) rfl) (pv 2) pe_int))) (pa_cons (pe_op (ok_addU (K := K) rfl) (pv 3) (pe_slice (slk_sliceU (K := K) rfl) (pv 5) po_none (po_some pe_int))) pa_nil))) (pa_cons (pe_tup (pa_cons (pe_slice (slk_sliceU (K := K) rfl) (pv 4) (po_some pe_int) po_none) (pa_cons (pe_slice (slk_sliceU (K := K) rfl) (pv 5) (po_some pe_int) po_none) pa_nil))) pa_nil)))) (pss_one (ps_ret (pe_tup (pa_cons (pe_op (ok_addU (K := K) rfl) (pe_op (ok_addU (K := K) rfl) (pe_slice (slk_sliceU (K := K) rfl) (pv 0) po_none (po_some (pv 2))) (pe_slice (slk_sliceU (K := K) rfl) (pv 4) po_none (po_some pe_int))) (pe_slice (slk_sliceU (K := K) rfl) (pv 0) (po_some (pe_op (ok_addU (K := K) rfl) (pv 2) pe_int)) po_none)) (pa_cons (pe_op (ok_addU (K := K) rfl) (pe_op (ok_addU (K := K) rfl) (pe_slice (slk_sliceU (K := K) rfl) (pv 1) po_none (po_some (pv 2))) (pv 6)) (pe_slice (slk_sliceU (K := K) rfl) (pv 1) (po_some (pe_op (ok_addU (K := K) rfl) (pv 2) pe_int)) po_none)) pa_nil)))))) pss_nil) (pss_cons (ps_set (i := 7) sc__law_behind.nd rfl (by first | exact .inl rfl | exact .inr rfl) (pe_tup (pa_cons (pe_op (ok_addU (K := K) rfl) (pe_slice (slk_sliceU (K := K) rfl) (pv 0) (po_some (pv 2)) (po_some (pe_op (ok_addU (K := K) rfl) (pv 2) pe_int))) (pv 4)) (pa_cons (pe_op (ok_addU (K := K) rfl) (pv 3) (pv 5)) pa_nil)))) (pss_one (ps_ret (pe_tup (pa_cons (pe_op (ok_addU (K := K) rfl) (pe_slice (slk_sliceU (K := K) rfl) (pv 0) po_none (po_some (pv 2))) (pe_slice (slk_sliceU (K := K) rfl) (pv 0) (po_some (pe_op (ok_addU (K := K) rfl) (pv 2) pe_int)) po_none)) (pa_cons (pe_op (ok_addU (K := K) rfl) (pe_op (ok_addU (K := K) rfl) (pe_slice (slk_sliceU (K := K) rfl) (pv 1) po_none (po_some (pv 2))) (pe_tup (pa_cons (pv 7) pa_nil))) (pe_slice (slk_sliceU (K := K) rfl) (pv 1) (po_some (pe_op (ok_addU (K := K) rfl) (pv 2) pe_int)) po_none)) pa_nil)))))))), body_F (n := 5) ?_ rfl h⟩
  exact (ss_seq (ss_asg (se_tup (sa_cons (se_ix (se_ix se_var se_var) se_int) (sa_cons (se_ix se_var (se_add se_var se_int)) sa_nil))) (sg_row (sgs_cons sg_name (sgs_cons (sg_row (sgs_cons sg_name (sgs_cons sg_name sgs_nil))) sgs_nil)))) (ss_seq (ss_if (st_test (se_gt (se_len (sa_cons se_var sa_nil)) se_int)) (ss_seq (ss_asg (se_tup (sa_cons (se_tup (sa_cons (se_sl se_var (so_some se_var) (so_some (se_add se_var se_int))) (sa_cons (se_add se_var (se_sl se_var so_none (so_some se_int))) sa_nil))) (sa_cons (se_tup (sa_cons (se_sl se_var (so_some se_int) so_none) (sa_cons (se_sl se_var (so_some se_int) so_none) sa_nil))) sa_nil))) sg_name) (ss_ret (se_tup (sa_cons (se_add (se_add (se_sl se_var so_none (so_some se_var)) (se_sl se_var so_none (so_some se_int))) (se_sl se_var (so_some (se_add se_var se_int)) so_none)) (sa_cons (se_add (se_add (se_sl se_var so_none (so_some se_var)) se_var) (se_sl se_var (so_some (se_add se_var se_int)) so_none)) sa_nil))))) ss_next) (ss_seq (ss_asg (se_tup (sa_cons (se_add (se_sl se_var (so_some se_var) (so_some (se_add se_var se_int))) se_var) (sa_cons (se_add se_var se_var) sa_nil))) sg_name) (ss_ret (se_tup (sa_cons (se_add (se_sl se_var so_none (so_some se_var)) (se_sl se_var (so_some (se_add se_var se_int)) so_none)) (sa_cons (se_add (se_add (se_sl se_var so_none (so_some se_var)) (se_tup (sa_cons se_var sa_nil))) (se_sl se_var (so_some (se_add se_var se_int)) so_none)) sa_nil)))))))
abbrev s__law_ahead : Stmt := topS 45
abbrev n__law_ahead : List Str := ["_law_keys", "_law_parts", "_law_at", "_law_bare", "_law_others", "_law_rest", "_law_pair"]
theorem sc__law_ahead : FnScope n__law_ahead ["_law_keys", "_law_parts", "_law_at"] (defScope s__law_ahead) := ⟨rfl, rfl, rfl, by decide +kernel, rfl, by decide +kernel, by decide +kernel⟩
theorem H__law_ahead (bl : Bm mg) (nx : NoX CX) (F : FunD K "_law_ahead" "_law_ahead" (defArgs s__law_ahead) (defBody s__law_ahead) (defScope s__law_ahead) [] [] f fd) (hm : mg "_law_ahead" = some (.ref f)) :
    Has P w K mg base CX "_law_ahead" 1 ["_law_keys", "_law_parts", "_law_at"] [] (spF K 3 F__law_ahead) := by
  refine has_mk F hm sc__law_ahead (spF_len rfl) (fun _ _ _ _ _ _ us hl => match us, hl with | [_, _, _], _ => rfl) fun cdv A outer s H vs Q E hr h => ?_
  refine ⟨_, (pss_cons (ps_asg (pe_tup (pa_cons (pe_ix (ixk_seq (K := K) rfl) (pe_ix (ixk_seq (K := K) rfl) (pv 1) (pv 2) (fun _ _ => rfl)) pe_int (fun _ _ => rfl)) (pa_cons (pe_ix (ixk_seq (K := K) rfl) (pv 1) (pe_op op_sub (pv 2) pe_int) (fun _ _ => rfl)) pa_nil))) (pgk_row (K := K) (n := 2) rfl rfl (pgs_cons (pg_name (i := 3) sc__law_ahead.nd rfl (by first | exact .inl rfl | exact .inr rfl)) (pgs_cons (pgk_row (K := K) (n := 2) rfl rfl (pgs_cons (pg_name (i := 4) sc__law_ahead.nd rfl (by first | exact .inl rfl | exact .inr rfl)) (pgs_cons (pg_name (i := 5) sc__law_ahead.nd rfl (by first | exact .inl rfl | exact .inr rfl)) pgs_nil))) pgs_nil)))) (pss_cons (ps_if (pt_cmpR op_gtU (pe_callB (ck_lenU (K := K) rfl) (by rfl) bl.len bb_len (pa_cons (pv 4) pa_nil)) pe_int (nomark _)) (pss_cons (ps_set (i := 6) sc__law_ahead.nd rfl (by first | exact .inl rfl | exact .inr rfl) (pe_tup (pa_cons (pe_tup (pa_cons (pe_slice (slk_sliceU (K := K) rfl) (pv 4) po_none (po_some (pe_un un_neg pe_int))) (pa_cons (pe_slice (slk_sliceU (K := K) rfl) (pv 5) po_none (po_some (pe_un un_neg pe_int))) pa_nil))) (pa_cons (pe_tup (pa_cons (pe_slice (slk_sliceU (K := K) rfl) (pv 0) (po_some (pe_op op_sub (pv 2) pe_int)) po_none) (pa_cons (pe_op (ok_addU (K := K) rfl) (pe_slice (slk_sliceU (K := K) rfl) (pv 5) (po_some (pe_un un_neg pe_int)) po_none) (pv 3)) pa_nil))) pa_nil)))) (pss_one (ps_ret (pe_tup (pa_cons (pe_op (ok_addU (K := K) rfl) (pe_slice (slk_sliceU (K := K) rfl) (pv 0) po_none (po_some (pe_op op_sub (pv 2) pe_int))) (pe_slice (slk_sliceU (K := K) rfl) (pv 4) (po_some (pe_un un_neg pe_int)) po_none)) (pa_cons (pe_op (ok_addU (K := K) rfl) (pe_slice (slk_sliceU (K := K) rfl) (pv 1) po_none (po_some (pe_op op_sub (pv 2) pe_int))) (pv 6)) pa_nil)))))) pss_nil) (pss_one (ps_ret (pe_tup (pa_cons (pe_slice (slk_sliceU (K := K) rfl) (pv 0) po_none (po_some (pe_op op_sub (pv 2) pe_int))) (pa_cons (pe_op (ok_addU (K := K) rfl) (pe_slice (slk_sliceU (K := K) rfl) (pv 1) po_none (po_some (pe_op op_sub (pv 2) pe_int))) (pe_tup (pa_cons (pe_tup (pa_cons (pe_op (ok_addU (K := K) rfl) (pv 4) (pe_slice (slk_sliceU (K := K) rfl) (pv 0) (po_some (pe_op op_sub (pv 2) pe_int)) po_none)) (pa_cons (pe_op (ok_addU (K := K) rfl) (pv 5) (pv 3)) pa_nil))) pa_nil))) pa_nil))))))), body_F (n := 4) ?_ rfl h⟩
  exact (ss_seq (ss_asg (se_tup (sa_cons (se_ix (se_ix se_var se_var) se_int) (sa_cons (se_ix se_var (se_sub se_var se_int)) sa_nil))) (sg_row (sgs_cons sg_name (sgs_cons (sg_row (sgs_cons sg_name (sgs_cons sg_name sgs_nil))) sgs_nil)))) (ss_seq (ss_if (st_test (se_gt (se_len (sa_cons se_var sa_nil)) se_int)) (ss_seq (ss_asg (se_tup (sa_cons (se_tup (sa_cons (se_sl se_var so_none (so_some (se_neg se_int))) (sa_cons (se_sl se_var so_none (so_some (se_neg se_int))) sa_nil))) (sa_cons (se_tup (sa_cons (se_sl se_var (so_some (se_sub se_var se_int)) so_none) (sa_cons (se_add (se_sl se_var (so_some (se_neg se_int)) so_none) se_var) sa_nil))) sa_nil))) sg_name) (ss_ret (se_tup (sa_cons (se_add (se_sl se_var so_none (so_some (se_sub se_var se_int))) (se_sl se_var (so_some (se_neg se_int)) so_none)) (sa_cons (se_add (se_sl se_var so_none (so_some (se_sub se_var se_int))) se_var) sa_nil))))) ss_next) (ss_ret (se_tup (sa_cons (se_sl se_var so_none (so_some (se_sub se_var se_int))) (sa_cons (se_add (se_sl se_var so_none (so_some (se_sub se_var se_int))) (se_tup (sa_cons (se_tup (sa_cons (se_add se_var (se_sl se_var (so_some (se_sub se_var se_int)) so_none)) (sa_cons (se_add se_var se_var) sa_nil))) sa_nil))) sa_nil))))))
abbrev s_check_number : Stmt := topS 9
abbrev n_check_number : List Str := ["value", "least", "greatest"]
theorem sc_check_number : FnScope n_check_number ["value", "least", "greatest"] (defScope s_check_number) := ⟨rfl, rfl, rfl, by decide +kernel, rfl, by decide +kernel, by decide +kernel⟩
theorem B_check_number (bl : Bm mg) (nx : NoX CX) (G_is_whole : Has P w K mg base CX "is_whole" 1 ["thing"] [] (spF K 1 F_is_whole)) :
    ∀ (cdv : Value) (A : Around) (outer : List Env) (s : Shared) (H : Hp) (vs : List V) (Q : VK) (E : XK), Room 1 (A.deeper (envOfC "check_number" (defScope s_check_number) s.heap.objs.size f cdv)) → spF K 3 F_check_number vs H Q E → ∃ t, PSs (cxOf CX P w K mg base n_check_number "check_number" (defScope s_check_number) f cdv A outer s H E).nox (defBody s_check_number) t ∧ t { nx := fun _ H' => Q .non H', rt := Q } (L2.start n_check_number vs) H := by
  intro cdv A outer s H vs Q E hr h
  refine ⟨_, (pss_cons (ps_if (PW.pt (pw_or (pt_not (ptk_truU (K := K) rfl (pe_has G_is_whole (hr.mono (by first | decide | omega)) (by rfl) (pa_cons (pv 0) pa_nil) (nx _)))) (pw_or1 (pt_cmpR op_ltU (pv 0) (pv 1) (nomark _))))) (pss_one ps_never) pss_nil) (pss_one (ps_if (PW.pt (pw_and (pt_cmpR op_notN (pv 2) pe_non (nomark _)) (pw_and1 (pt_cmpR op_gtU (pv 0) (pv 2) (nomark _))))) (pss_one ps_never) pss_nil))), body_F (n := 0) ?_ rfl h⟩
  exact (ss_seq (ss_if (st_or (st_not (st_truU (se_call (fun _ => .nil) (sa_cons se_var sa_nil)))) (st_test (se_lt se_var se_var))) ss_never ss_next) (ss_if (st_and (st_test (se_notN se_var se_non)) (st_test (se_gt se_var se_var))) ss_never ss_next))
theorem H_check_number (bl : Bm mg) (nx : NoX CX) (G_is_whole : Has P w K mg base CX "is_whole" 1 ["thing"] [] (spF K 1 F_is_whole)) (F : FunD K "check_number" "check_number" (defArgs s_check_number) (defBody s_check_number) (defScope s_check_number) [.non] [] f fd) (hm : mg "check_number" = some (.ref f)) :
    Has P w K mg base CX "check_number" 2 ["value", "least", "greatest"] [.non] (spF K 3 F_check_number) := by
  exact has_mkD (n := 2) F hm sc_check_number (spF_len rfl) (by simp) rfl (fun _ _ _ _ _ _ _ us its hl hi => match us, its, hl, hi with | [_, _], [_], _, _ => ⟨_, rfl, rfl⟩) (B_check_number (f := f) bl nx G_is_whole)
theorem H_check_number_full (bl : Bm mg) (nx : NoX CX) (G_is_whole : Has P w K mg base CX "is_whole" 1 ["thing"] [] (spF K 1 F_is_whole)) (F : FunD K "check_number" "check_number" (defArgs s_check_number) (defBody s_check_number) (defScope s_check_number) [.non] [] f fd) (hm : mg "check_number" = some (.ref f)) :
    Has P w K mg base CX "check_number" 2 ["value", "least", "greatest"] [] (spF K 3 F_check_number) := by
  obtain ⟨ds, hv, hb⟩ := F.binds1 (ps := ["value", "least", "greatest"]) 3 1 (by simp) rfl (fun _ _ _ _ _ _ _ us its hl hi => match us, its, hl, hi with | [_, _, _], [_], _, _ => ⟨_, rfl, rfl⟩)
  refine ⟨f, fd, ds, F.ok sc_check_number (spF_len rfl) fun cdv A outer s H vs Q E hr hs => ?_, hm, F.kp, hv, hb⟩
  obtain ⟨t, h1, h2⟩ := B_check_number (f := f) bl nx G_is_whole cdv A outer s H vs Q E hr hs
  exact ⟨t, h1.nox, h2⟩
abbrev s_check_key : Stmt := topS 10
abbrev n_check_key : List Str := ["key"]
theorem sc_check_key : FnScope n_check_key ["key"] (defScope s_check_key) := ⟨rfl, rfl, rfl, by decide +kernel, rfl, by decide +kernel, by decide +kernel⟩
theorem H_check_key (bl : Bm mg) (nx : NoX CX) (G_is_whole : Has P w K mg base CX "is_whole" 1 ["thing"] [] (spF K 1 F_is_whole)) (F : FunD K "check_key" "check_key" (defArgs s_check_key) (defBody s_check_key) (defScope s_check_key) [] [] f fd) (hm : mg "check_key" = some (.ref f)) :
    Has P w K mg base CX "check_key" 2 ["key"] [] (spF K 1 F_check_key) := by
  refine has_mk F hm sc_check_key (spF_len rfl) (fun _ _ _ _ _ _ us hl => match us, hl with | [_], _ => rfl) fun cdv A outer s H vs Q E hr h => ?_
  refine ⟨_, (pss_one (ps_if (pt_not (ptk_truU (K := K) rfl (pe_has G_is_whole (hr.mono (by first | decide | omega)) (by rfl) (pa_cons (pv 0) pa_nil) (nx _)))) (pss_one ps_never) pss_nil)), body_F (n := 0) ?_ rfl h⟩
  exact (ss_if (st_not (st_truU (se_call (fun _ => .nil) (sa_cons se_var sa_nil)))) ss_never ss_next)
abbrev s__is_pair : Stmt := topS 17
abbrev n__is_pair : List Str := ["thing", "key", "height"]
theorem sc__is_pair : FnScope n__is_pair ["thing"] (defScope s__is_pair) := ⟨rfl, rfl, rfl, by decide +kernel, rfl, by decide +kernel, by decide +kernel⟩
theorem H__is_pair (bl : Bm mg) (nx : NoX CX) (G_is_row : Has P w K mg base CX "is_row" 1 ["thing"] [] (spF K 1 F_is_row)) (G_is_whole : Has P w K mg base CX "is_whole" 1 ["thing"] [] (spF K 1 F_is_whole)) (F : FunD K "_is_pair" "_is_pair" (defArgs s__is_pair) (defBody s__is_pair) (defScope s__is_pair) [] [] f fd) (hm : mg "_is_pair" = some (.ref f)) :
    Has P w K mg base CX "_is_pair" 2 ["thing"] [] (spF K 1 F__is_pair) := by
  refine has_mk F hm sc__is_pair (spF_len rfl) (fun _ _ _ _ _ _ us hl => match us, hl with | [_], _ => rfl) fun cdv A outer s H vs Q E hr h => ?_
  refine ⟨_, (pss_cons (ps_if (PW.pt (pw_or (pt_not (ptk_truU (K := K) rfl (pe_has G_is_row (hr.mono (by first | decide | omega)) (by rfl) (pa_cons (pv 0) pa_nil) (nx _)))) (pw_or1 (pt_cmpR (ok_neD (K := K) rfl hr.units) (pe_callB (ck_lenU (K := K) rfl) (by rfl) bl.len bb_len (pa_cons (pv 0) pa_nil)) pe_int (nomark _))))) (pss_one (ps_ret pe_bl)) pss_nil) (pss_cons (ps_asg (pv 0) (pgk_row (K := K) (n := 2) rfl rfl (pgs_cons (pg_name (i := 1) sc__is_pair.nd rfl (by first | exact .inl rfl | exact .inr rfl)) (pgs_cons (pg_name (i := 2) sc__is_pair.nd rfl (by first | exact .inl rfl | exact .inr rfl)) pgs_nil)))) (pss_one (ps_ret (pe_and (pe_has G_is_whole (hr.mono (by first | decide | omega)) (by rfl) (pa_cons (pv 1) pa_nil) (nx _)) (pe_and (pe_has G_is_whole (hr.mono (by first | decide | omega)) (by rfl) (pa_cons (pv 2) pa_nil) (nx _)) (pe_one (pe_cmpR op_geU (pv 2) pe_int (nomark _))))))))), body_F (n := 2) ?_ rfl h⟩
  exact (ss_seq (ss_if (st_or (st_not (st_truU (se_call (fun _ => .nil) (sa_cons se_var sa_nil)))) (st_test (se_ne (se_len (sa_cons se_var sa_nil)) se_int))) (ss_ret se_bl) ss_next) (ss_seq (ss_asg se_var (sg_row (sgs_cons sg_name (sgs_cons sg_name sgs_nil)))) (ss_ret (se_and (se_call (fun _ => .nil) (sa_cons se_var sa_nil)) (se_and (se_call (fun _ => .nil) (sa_cons se_var sa_nil)) (se_ge se_var se_int))))))
abbrev s_has_key : Stmt := topS 19
abbrev n_has_key : List Str := ["towers", "key", "at"]
theorem sc_has_key : FnScope n_has_key ["towers", "key"] (defScope s_has_key) := ⟨rfl, rfl, rfl, by decide +kernel, rfl, by decide +kernel, by decide +kernel⟩
theorem H_has_key (bl : Bm mg) (nx : NoX CX) (G_count_below : Has P w K mg base CX "count_below" 1 ["towers", "key"] [] (spF K 2 F_count_below)) (F : FunD K "has_key" "has_key" (defArgs s_has_key) (defBody s_has_key) (defScope s_has_key) [] [] f fd) (hm : mg "has_key" = some (.ref f)) :
    Has P w K mg base CX "has_key" 2 ["towers", "key"] [] (spF K 2 F_has_key) := by
  refine has_mk F hm sc_has_key (spF_len rfl) (fun _ _ _ _ _ _ us hl => match us, hl with | [_, _], _ => rfl) fun cdv A outer s H vs Q E hr h => ?_
  refine ⟨_, (pss_cons (ps_set (i := 2) sc_has_key.nd rfl (by first | exact .inl rfl | exact .inr rfl) (pe_has G_count_below (hr.mono (by first | decide | omega)) (by rfl) (pa_cons (pv 0) (pa_cons (pv 1) pa_nil)) (nx _))) (pss_one (ps_ret (pe_and (pe_cmpR op_ltU (pv 2) (pe_callB (ck_lenU (K := K) rfl) (by rfl) bl.len bb_len (pa_cons (pv 0) pa_nil)) (nomark _)) (pe_one (pe_cmpR (ok_eqD (K := K) rfl hr.units) (pe_ix (ixk_seq (K := K) rfl) (pe_ix (ixk_seq (K := K) rfl) (pv 0) (pv 2) (fun _ _ => rfl)) pe_int (fun _ _ => rfl)) (pv 1) (nomark _))))))), body_F (n := 1) ?_ rfl h⟩
  exact (ss_seq (ss_asg (se_call (fun _ => .nil) (sa_cons se_var (sa_cons se_var sa_nil))) sg_name) (ss_ret (se_and (se_lt se_var (se_len (sa_cons se_var sa_nil))) (se_eq (se_ix (se_ix se_var se_var) se_int) se_var))))
abbrev s_without_key : Stmt := topS 21
abbrev n_without_key : List Str := ["towers", "key", "place", "rows"]
theorem sc_without_key : FnScope n_without_key ["towers", "key"] (defScope s_without_key) := ⟨rfl, rfl, rfl, by decide +kernel, rfl, by decide +kernel, by decide +kernel⟩
theorem H_without_key (bl : Bm mg) (nx : NoX CX) (G_count_below : Has P w K mg base CX "count_below" 1 ["towers", "key"] [] (spF K 2 F_count_below)) (G_as_tuples : Has P w K mg base CX "as_tuples" 1 ["towers"] [] (spF K 1 F_as_tuples)) (F : FunD K "without_key" "without_key" (defArgs s_without_key) (defBody s_without_key) (defScope s_without_key) [] [] f fd) (hm : mg "without_key" = some (.ref f)) :
    Has P w K mg base CX "without_key" 2 ["towers", "key"] [] (spF K 2 F_without_key) := by
  refine has_mk F hm sc_without_key (spF_len rfl) (fun _ _ _ _ _ _ us hl => match us, hl with | [_, _], _ => rfl) fun cdv A outer s H vs Q E hr h => ?_
  refine ⟨_, (pss_cons (ps_set (i := 2) sc_without_key.nd rfl (by first | exact .inl rfl | exact .inr rfl) (pe_has G_count_below (hr.mono (by first | decide | omega)) (by rfl) (pa_cons (pv 0) (pa_cons (pv 1) pa_nil)) (nx _))) (pss_cons (ps_set (i := 3) sc_without_key.nd rfl (by first | exact .inl rfl | exact .inr rfl) (pe_has G_as_tuples (hr.mono (by first | decide | omega)) (by rfl) (pa_cons (pv 0) pa_nil) (nx _))) (pss_one (ps_ret (pe_op (ok_addU (K := K) rfl) (pe_slice (slk_sliceU (K := K) rfl) (pv 3) po_none (po_some (pv 2))) (pe_slice (slk_sliceU (K := K) rfl) (pv 3) (po_some (pe_op (ok_addU (K := K) rfl) (pv 2) pe_int)) po_none)))))), body_F (n := 2) ?_ rfl h⟩
  exact (ss_seq (ss_asg (se_call (fun _ => .nil) (sa_cons se_var (sa_cons se_var sa_nil))) sg_name) (ss_seq (ss_asg (se_call (fun _ => .nil) (sa_cons se_var sa_nil)) sg_name) (ss_ret (se_add (se_sl se_var so_none (so_some se_var)) (se_sl se_var (so_some (se_add se_var se_int)) so_none)))))
abbrev s__is_gapped : Stmt := topS 31
abbrev n__is_gapped : List Str := ["towers", "least", "most", "level", "found"]
theorem sc__is_gapped : FnScope n__is_gapped ["towers", "least", "most"] (defScope s__is_gapped) := ⟨rfl, rfl, rfl, by decide +kernel, rfl, by decide +kernel, by decide +kernel⟩
theorem H__is_gapped (bl : Bm mg) (nx : NoX CX) (G_tallest : Has P w K mg base CX "tallest" 1 ["towers"] [] (spF K 1 F_tallest)) (G__gaps : Has P w K mg base CX "_gaps" 1 ["towers", "level"] [] (spL K 2 F__gaps)) (F : FunD K "_is_gapped" "_is_gapped" (defArgs s__is_gapped) (defBody s__is_gapped) (defScope s__is_gapped) [] [] f fd) (hm : mg "_is_gapped" = some (.ref f)) :
    Has P w K mg base CX "_is_gapped" 2 ["towers", "least", "most"] [] (spF K 3 F__is_gapped) := by
  refine has_mk F hm sc__is_gapped (spF_len rfl) (fun _ _ _ _ _ _ us hl => match us, hl with | [_, _, _], _ => rfl) fun cdv A outer s H vs Q E hr h => ?_
  refine ⟨_, (pss_cons (ps_for PassesOwn.never rfl (pi_range2 rfl bl.range (pa_cons pe_int (pa_cons (pe_op (ok_addU (K := K) rfl) (pe_has G_tallest (hr.mono (by first | decide | omega)) (by rfl) (pa_cons (pv 0) pa_nil) (nx _)) pe_int) pa_nil))) (pg_name (i := 3) sc__is_gapped.nd rfl (by first | exact .inl rfl | exact .inr rfl)) (pss_cons (ps_set (i := 4) sc__is_gapped.nd rfl (by first | exact .inl rfl | exact .inr rfl) (pe_has G__gaps (hr.mono (by first | decide | omega)) (by rfl) (pa_cons (pv 0) (pa_cons (pv 3) pa_nil)) (nx _))) (pss_one (ps_if (PW.pt (pw_or (pt_cmpR op_ltU (pe_callB (ck_min (K := K) rfl rfl) (by rfl) bl.min bb_min (pa_cons (pv 4) pa_nil)) (pv 1) (nomark _)) (pw_or1 (pt_cmpR op_gtU (pe_callB (ck_max (K := K) rfl rfl) (by rfl) bl.max bb_max (pa_cons (pv 4) pa_nil)) (pv 2) (nomark _))))) (pss_one (ps_ret pe_bl)) pss_nil)))) (pss_one (ps_ret pe_bl))), body_F (n := 2) ?_ rfl h⟩
  exact (ss_seq (ss_for (si_rg2 (sa_cons se_int (sa_cons (se_add (se_call (fun _ => .nil) (sa_cons se_var sa_nil)) se_int) sa_nil))) sg_name (ss_seq (ss_asg (se_fz (sl_call (fun _ => .nil) (sa_cons se_var (sa_cons se_var sa_nil)))) sg_name) (ss_if (st_or (st_test (se_lt (se_minL (sa_cons se_var sa_nil)) se_var)) (st_test (se_gt (se_maxL (sa_cons se_var sa_nil)) se_var))) (ss_ret se_bl) ss_next))) (ss_ret se_bl))
abbrev s__lower_behind : Stmt := topS 35
abbrev n__lower_behind : List Str := ["heights", "ends", "at", "level", "gap"]
theorem sc__lower_behind : FnScope n__lower_behind ["heights", "ends", "at", "level"] (defScope s__lower_behind) := ⟨rfl, rfl, rfl, by decide +kernel, rfl, by decide +kernel, by decide +kernel⟩
theorem H__lower_behind (bl : Bm mg) (nx : NoX CX) (G__gap_between : Has P w K mg base CX "_gap_between" 1 ["heights", "low", "high", "level"] [] (spL K 4 F__gap_between)) (F : FunD K "_lower_behind" "_lower_behind" (defArgs s__lower_behind) (defBody s__lower_behind) (defScope s__lower_behind) [] [] f fd) (hm : mg "_lower_behind" = some (.ref f)) :
    Has P w K mg base CX "_lower_behind" 2 ["heights", "ends", "at", "level"] [] (spM K 4 F__lower_behind) := by
  refine has_mk F hm sc__lower_behind (spM_len rfl) (fun _ _ _ _ _ _ us hl => match us, hl with | [_, _, _, _], _ => rfl) fun cdv A outer s H vs Q E hr h => ?_
  refine ⟨_, (pss_cons (ps_if (PW.pt (pw_or (pt_cmpR (ok_eqD (K := K) rfl hr.units) (pv 2) (pe_op op_sub (pe_callB (ck_lenU (K := K) rfl) (by rfl) bl.len bb_len (pa_cons (pv 1) pa_nil)) pe_int) (nomark _)) (pw_or1 (pt_cmpR (ok_neD (K := K) rfl hr.units) (pe_ix (ixk_seq (K := K) rfl) (pv 0) (pe_ix (ixk_seq (K := K) rfl) (pv 1) (pv 2) (fun _ _ => rfl)) (fun _ _ => rfl)) (pe_op (ok_addU (K := K) rfl) (pv 3) pe_int) (nomark _))))) (pss_one (ps_ret pe_bl)) pss_nil) (pss_cons (ps_set (i := 4) sc__lower_behind.nd rfl (by first | exact .inl rfl | exact .inr rfl) (pe_has G__gap_between (hr.mono (by first | decide | omega)) (by rfl) (pa_cons (pv 0) (pa_cons (pe_ix (ixk_seq (K := K) rfl) (pv 1) (pv 2) (fun _ _ => rfl)) (pa_cons (pe_ix (ixk_seq (K := K) rfl) (pv 1) (pe_op (ok_addU (K := K) rfl) (pv 2) pe_int) (fun _ _ => rfl)) (pa_cons (pv 3) pa_nil)))) (nx _))) (pss_cons (ps_asg (pv 3) (pg_sub (pv 0) (pe_ix (ixk_seq (K := K) rfl) (pv 1) (pv 2) (fun _ _ => rfl)) set_list)) (pss_cons (ps_if (pt_cmpR op_gtU (pe_callB (ck_lenU (K := K) rfl) (by rfl) bl.len bb_len (pa_cons (pv 4) pa_nil)) pe_int (nomark _)) (pss_one (ps_asg (pe_op (ok_addU (K := K) rfl) (pv 3) pe_int) (pg_sub (pv 0) (pe_ix (ixk_seq (K := K) rfl) (pv 4) pe_int (fun _ _ => rfl)) set_list))) pss_nil) (pss_one (ps_ret pe_bl)))))), body_M (n := 1) ?_ rfl h⟩
  exact (ss_seq (ss_if (st_or (st_test (se_eq se_var (se_sub (se_len (sa_cons se_var sa_nil)) se_int))) (st_test (se_ne (se_ixV (se_ix se_var se_var)) (se_add se_var se_int)))) (ss_ret se_bl) ss_next) (ss_seq (ss_asg (se_fz (sl_bor (sl_call (fun _ => .nil) (sa_cons se_var (sa_cons (se_ix se_var se_var) (sa_cons (se_ix se_var (se_add se_var se_int)) (sa_cons se_var sa_nil))))))) sg_name) (ss_seq (ss_setIx se_var (se_ix se_var se_var)) (ss_seq (ss_if (st_test (se_gt (se_len (sa_cons se_var sa_nil)) se_int)) (ss_setIx (se_add se_var se_int) (se_ix se_var se_int)) ss_next) (ss_ret se_bl)))))
abbrev s__lower_ahead : Stmt := topS 36
abbrev n__lower_ahead : List Str := ["heights", "ends", "at", "level", "gap"]
theorem sc__lower_ahead : FnScope n__lower_ahead ["heights", "ends", "at", "level"] (defScope s__lower_ahead) := ⟨rfl, rfl, rfl, by decide +kernel, rfl, by decide +kernel, by decide +kernel⟩
theorem H__lower_ahead (bl : Bm mg) (nx : NoX CX) (G__gap_between : Has P w K mg base CX "_gap_between" 1 ["heights", "low", "high", "level"] [] (spL K 4 F__gap_between)) (F : FunD K "_lower_ahead" "_lower_ahead" (defArgs s__lower_ahead) (defBody s__lower_ahead) (defScope s__lower_ahead) [] [] f fd) (hm : mg "_lower_ahead" = some (.ref f)) :
    Has P w K mg base CX "_lower_ahead" 2 ["heights", "ends", "at", "level"] [] (spM K 4 F__lower_ahead) := by
  refine has_mk F hm sc__lower_ahead (spM_len rfl) (fun _ _ _ _ _ _ us hl => match us, hl with | [_, _, _, _], _ => rfl) fun cdv A outer s H vs Q E hr h => ?_
  refine ⟨_, (pss_cons (ps_if (PW.pt (pw_or (pt_cmpR (ok_eqD (K := K) rfl hr.units) (pv 2) pe_int (nomark _)) (pw_or1 (pt_cmpR (ok_neD (K := K) rfl hr.units) (pe_ix (ixk_seq (K := K) rfl) (pv 0) (pe_ix (ixk_seq (K := K) rfl) (pv 1) (pv 2) (fun _ _ => rfl)) (fun _ _ => rfl)) (pe_op (ok_addU (K := K) rfl) (pv 3) pe_int) (nomark _))))) (pss_one (ps_ret pe_bl)) pss_nil) (pss_cons (ps_set (i := 4) sc__lower_ahead.nd rfl (by first | exact .inl rfl | exact .inr rfl) (pe_has G__gap_between (hr.mono (by first | decide | omega)) (by rfl) (pa_cons (pv 0) (pa_cons (pe_ix (ixk_seq (K := K) rfl) (pv 1) (pe_op op_sub (pv 2) pe_int) (fun _ _ => rfl)) (pa_cons (pe_ix (ixk_seq (K := K) rfl) (pv 1) (pv 2) (fun _ _ => rfl)) (pa_cons (pv 3) pa_nil)))) (nx _))) (pss_cons (ps_asg (pv 3) (pg_sub (pv 0) (pe_ix (ixk_seq (K := K) rfl) (pv 1) (pv 2) (fun _ _ => rfl)) set_list)) (pss_cons (ps_if (pt_cmpR op_gtU (pe_callB (ck_lenU (K := K) rfl) (by rfl) bl.len bb_len (pa_cons (pv 4) pa_nil)) pe_int (nomark _)) (pss_one (ps_asg (pe_op (ok_addU (K := K) rfl) (pv 3) pe_int) (pg_sub (pv 0) (pe_ix (ixk_seq (K := K) rfl) (pv 4) (pe_un un_neg pe_int) (fun _ _ => rfl)) set_list))) pss_nil) (pss_one (ps_ret pe_bl)))))), body_M (n := 1) ?_ rfl h⟩
  exact (ss_seq (ss_if (st_or (st_test (se_eq se_var se_int)) (st_test (se_ne (se_ixV (se_ix se_var se_var)) (se_add se_var se_int)))) (ss_ret se_bl) ss_next) (ss_seq (ss_asg (se_fz (sl_bor (sl_call (fun _ => .nil) (sa_cons se_var (sa_cons (se_ix se_var (se_sub se_var se_int)) (sa_cons (se_ix se_var se_var) (sa_cons se_var sa_nil))))))) sg_name) (ss_seq (ss_setIx se_var (se_ix se_var se_var)) (ss_seq (ss_if (st_test (se_gt (se_len (sa_cons se_var sa_nil)) se_int)) (ss_setIx (se_add se_var se_int) (se_ix se_var (se_neg se_int))) ss_next) (ss_ret se_bl)))))
abbrev s_wrong_tower : Stmt := topS 13
abbrev n_wrong_tower : List Str := ["thing", "index", "pair"]
theorem sc_wrong_tower : FnScope n_wrong_tower ["thing"] (defScope s_wrong_tower) := ⟨rfl, rfl, rfl, by decide +kernel, rfl, by decide +kernel, by decide +kernel⟩
theorem H_wrong_tower (bl : Bm mg) (nx : NoX CX) (G_is_row : Has P w K mg base CX "is_row" 1 ["thing"] [] (spF K 1 F_is_row)) (G__is_pair : Has P w K mg base CX "_is_pair" 2 ["thing"] [] (spF K 1 F__is_pair)) (F : FunD K "wrong_tower" "wrong_tower" (defArgs s_wrong_tower) (defBody s_wrong_tower) (defScope s_wrong_tower) [] [] f fd) (hm : mg "wrong_tower" = some (.ref f)) :
    Has P w K mg base CX "wrong_tower" 3 ["thing"] [] (spF K 1 F_wrong_tower) := by
  refine has_mk F hm sc_wrong_tower (spF_len rfl) (fun _ _ _ _ _ _ us hl => match us, hl with | [_], _ => rfl) fun cdv A outer s H vs Q E hr h => ?_
  refine ⟨_, (pss_cons (ps_if (pt_not (ptk_truU (K := K) rfl (pe_has G_is_row (hr.mono (by first | decide | omega)) (by rfl) (pa_cons (pv 0) pa_nil) (nx _)))) (pss_one (ps_ret (pe_un un_neg pe_int))) pss_nil) (pss_cons (ps_for PassesOwn.never rfl (pi_enumR (by rfl) bl.enumerate (pa_cons (pv 0) pa_nil)) (pgk_row (K := K) (n := 2) rfl rfl (pgs_cons (pg_name (i := 1) sc_wrong_tower.nd rfl (by first | exact .inl rfl | exact .inr rfl)) (pgs_cons (pg_name (i := 2) sc_wrong_tower.nd rfl (by first | exact .inl rfl | exact .inr rfl)) pgs_nil))) (pss_cons (ps_if (pt_not (ptk_truU (K := K) rfl (pe_has G__is_pair (hr.mono (by first | decide | omega)) (by rfl) (pa_cons (pv 2) pa_nil) (nx _)))) (pss_one (ps_ret (pv 1))) pss_nil) (pss_one (ps_if (PW.pt (pw_and (pt_cmpR op_gtU (pv 1) pe_int (nomark _)) (pw_and1 (pt_cmpR op_leU (pe_ix (ixk_seq (K := K) rfl) (pv 2) pe_int (fun _ _ => rfl)) (pe_ix (ixk_seq (K := K) rfl) (pe_ix (ixk_seq (K := K) rfl) (pv 0) (pe_op op_sub (pv 1) pe_int) (fun _ _ => rfl)) pe_int (fun _ _ => rfl)) (nomark _))))) (pss_one (ps_ret (pv 1))) pss_nil)))) (pss_one (ps_ret pe_non)))), body_F (n := 2) ?_ rfl h⟩
  exact (ss_seq (ss_if (st_not (st_truU (se_call (fun _ => .nil) (sa_cons se_var sa_nil)))) (ss_ret (se_neg se_int)) ss_next) (ss_seq (ss_for (si_enumR (sa_cons se_var sa_nil)) (sg_row (sgs_cons sg_name (sgs_cons sg_name sgs_nil))) (ss_seq (ss_if (st_not (st_truU (se_call (fun _ => .nil) (sa_cons se_var sa_nil)))) (ss_ret se_var) ss_next) (ss_if (st_and (st_test (se_gt se_var se_int)) (st_test (se_le (se_ix se_var se_int) (se_ix (se_ix se_var (se_sub se_var se_int)) se_int)))) (ss_ret se_var) ss_next))) (ss_ret se_non)))
abbrev s__check_bounds : Stmt := topS 28
abbrev n__check_bounds : List Str := ["least", "most"]
theorem sc__check_bounds : FnScope n__check_bounds ["least", "most"] (defScope s__check_bounds) := ⟨rfl, rfl, rfl, by decide +kernel, rfl, by decide +kernel, by decide +kernel⟩
theorem H__check_bounds (bl : Bm mg) (nx : NoX CX) (G_check_number_full : Has P w K mg base CX "check_number" 2 ["value", "least", "greatest"] [] (spF K 3 F_check_number)) {u_GREATEST_BOUND : Value} (g_GREATEST_BOUND : mg "GREATEST_BOUND" = some u_GREATEST_BOUND) (r_GREATEST_BOUND : RelV (.int 20) u_GREATEST_BOUND) (F : FunD K "_check_bounds" "_check_bounds" (defArgs s__check_bounds) (defBody s__check_bounds) (defScope s__check_bounds) [] [] f fd) (hm : mg "_check_bounds" = some (.ref f)) :
    Has P w K mg base CX "_check_bounds" 3 ["least", "most"] [] (spF K 2 F__check_bounds) := by
  refine has_mk F hm sc__check_bounds (spF_len rfl) (fun _ _ _ _ _ _ us hl => match us, hl with | [_, _], _ => rfl) fun cdv A outer s H vs Q E hr h => ?_
  refine ⟨_, (pss_cons (ps_expr (pe_has G_check_number_full (hr.mono (by first | decide | omega)) (by rfl) (pa_cons (pv 0) (pa_cons pe_int (pa_cons (pe_glob (v := .int 20) (by rfl) g_GREATEST_BOUND r_GREATEST_BOUND) pa_nil))) (nx _))) (pss_one (ps_expr (pe_has G_check_number_full (hr.mono (by first | decide | omega)) (by rfl) (pa_cons (pv 1) (pa_cons (pv 0) (pa_cons (pe_glob (v := .int 20) (by rfl) g_GREATEST_BOUND r_GREATEST_BOUND) pa_nil))) (nx _))))), body_F (n := 0) ?_ rfl h⟩
  exact (ss_seq (ss_drop (se_call (fun _ => .nil) (sa_cons se_var (sa_cons se_int (sa_cons se_int sa_nil))))) (ss_drop (se_call (fun _ => .nil) (sa_cons se_var (sa_cons se_var (sa_cons se_int sa_nil))))))
abbrev s__fill_gap : Stmt := topS 34
abbrev n__fill_gap : List Str := ["heights", "level", "at", "ends", "height"]
theorem sc__fill_gap : FnScope n__fill_gap ["heights", "level"] (defScope s__fill_gap) := ⟨rfl, rfl, rfl, by decide +kernel, rfl, by decide +kernel, by decide +kernel⟩
theorem H__fill_gap (bl : Bm mg) (nx : NoX CX) (G__gap_between : Has P w K mg base CX "_gap_between" 1 ["heights", "low", "high", "level"] [] (spL K 4 F__gap_between)) (G__lower_ahead : Has P w K mg base CX "_lower_ahead" 2 ["heights", "ends", "at", "level"] [] (spM K 4 F__lower_ahead)) (G__lower_behind : Has P w K mg base CX "_lower_behind" 2 ["heights", "ends", "at", "level"] [] (spM K 4 F__lower_behind)) (F : FunD K "_fill_gap" "_fill_gap" (defArgs s__fill_gap) (defBody s__fill_gap) (defScope s__fill_gap) [] [] f fd) (hm : mg "_fill_gap" = some (.ref f)) :
    Has P w K mg base CX "_fill_gap" 3 ["heights", "level"] [] (spM K 2 F__fill_gap) := by
  refine has_mk F hm sc__fill_gap (spM_len rfl) (fun _ _ _ _ _ _ us hl => match us, hl with | [_, _], _ => rfl) fun cdv A outer s H vs Q E hr h => ?_
  refine ⟨_, (pss_cons (ps_set (i := 3) sc__fill_gap.nd rfl (by first | exact .inl rfl | exact .inr rfl) (pe_op (ok_addU (K := K) rfl) (pe_op (ok_addU (K := K) rfl) (pe_lst (pa_cons (pe_un un_neg pe_int) pa_nil)) (pe_lc (own := [("at", 2), ("height", 4)]) (by rfl) sc__fill_gap.nd (pi_enumR (by rfl) bl.enumerate (pa_cons (pv 0) pa_nil)) (blkOk_by (own := [("at", 2), ("height", 4)]) (N := n__fill_gap) (sc := defScope s__fill_gap) (by decide +kernel)) (fun _ _ _ _ _ => (pgk_row (K := K) (n := 2) rfl rfl (pgs_cons (pg_name (i := 2) sc__fill_gap.nd rfl (Or.inl rfl) (Or.inr rfl)) (pgs_cons (pg_name (i := 4) sc__fill_gap.nd rfl (Or.inl rfl) (Or.inr rfl)) pgs_nil rfl) rfl) rfl rfl)) (fun _ _ _ _ _ => (pts_one (pt_cmpR op_gtU (pv 4) (pv 1) (nomark _)))) (fun _ _ _ _ _ => (pv 2)))) (pe_lst (pa_cons (pe_callB (ck_lenU (K := K) rfl) (by rfl) bl.len bb_len (pa_cons (pv 0) pa_nil)) pa_nil)))) (pss_cons (ps_for PassesOwn.never rfl (pi_range1 rfl bl.range (pa_cons (pe_op op_sub (pe_callB (ck_lenU (K := K) rfl) (by rfl) bl.len bb_len (pa_cons (pv 3) pa_nil)) pe_int) pa_nil)) (pg_name (i := 2) sc__fill_gap.nd rfl (by first | exact .inl rfl | exact .inr rfl)) (pss_one (ps_if (pt_not (ptk_truU (K := K) rfl (pe_has G__gap_between (hr.mono (by first | decide | omega)) (by rfl) (pa_cons (pv 0) (pa_cons (pe_ix (ixk_seq (K := K) rfl) (pv 3) (pv 2) (fun _ _ => rfl)) (pa_cons (pe_ix (ixk_seq (K := K) rfl) (pv 3) (pe_op (ok_addU (K := K) rfl) (pv 2) pe_int) (fun _ _ => rfl)) (pa_cons (pv 1) pa_nil)))) (nx _)))) (pss_one (ps_ret (pe_or (pe_has G__lower_behind (hr.mono (by first | decide | omega)) (by rfl) (pa_cons (pv 0) (pa_cons (pv 3) (pa_cons (pe_op (ok_addU (K := K) rfl) (pv 2) pe_int) (pa_cons (pv 1) pa_nil)))) (nx _)) (pe_one (pe_has G__lower_ahead (hr.mono (by first | decide | omega)) (by rfl) (pa_cons (pv 0) (pa_cons (pv 3) (pa_cons (pv 2) (pa_cons (pv 1) pa_nil)))) (nx _)))))) pss_nil))) (pss_one (ps_ret pe_bl)))), body_M (n := 3) ?_ rfl h⟩
  exact (ss_seq (ss_asg (se_add (se_add (se_fz (sl_lst (sa_cons (se_neg se_int) sa_nil))) (se_fz (sl_bor (sl_lc (si_enumR (sa_cons se_var sa_nil)) (sg_row (sgs_cons sg_name (sgs_cons sg_name sgs_nil))) (st_test (se_gt se_var se_var)) se_var (by decide))))) (se_fz (sl_lst (sa_cons se_lenV sa_nil)))) sg_name) (ss_seq (ss_for (si_rg1 (sa_cons (se_sub (se_len (sa_cons se_var sa_nil)) se_int) sa_nil)) sg_name (ss_if (st_not (st_truU (se_fz (sl_bor (sl_call (fun _ => .nil) (sa_cons se_var (sa_cons (se_ix se_var se_var) (sa_cons (se_ix se_var (se_add se_var se_int)) (sa_cons se_var sa_nil))))))))) (ss_ret (se_or (se_callM (sa_cons se_var (sa_cons (se_add se_var se_int) (sa_cons se_var sa_nil)))) (se_callM (sa_cons se_var (sa_cons se_var (sa_cons se_var sa_nil)))))) ss_next)) (ss_ret se_bl)))
abbrev s_check_towers : Stmt := topS 12
abbrev n_check_towers : List Str := ["towers", "index"]
theorem sc_check_towers : FnScope n_check_towers ["towers"] (defScope s_check_towers) := ⟨rfl, rfl, rfl, by decide +kernel, rfl, by decide +kernel, by decide +kernel⟩
theorem H_check_towers (bl : Bm mg) (nx : NoX CX) (G_wrong_tower : Has P w K mg base CX "wrong_tower" 3 ["thing"] [] (spF K 1 F_wrong_tower)) (F : FunD K "check_towers" "check_towers" (defArgs s_check_towers) (defBody s_check_towers) (defScope s_check_towers) [] [] f fd) (hm : mg "check_towers" = some (.ref f)) :
    Has P w K mg base CX "check_towers" 4 ["towers"] [] (spF K 1 F_check_towers) := by
  refine has_mk F hm sc_check_towers (spF_len rfl) (fun _ _ _ _ _ _ us hl => match us, hl with | [_], _ => rfl) fun cdv A outer s H vs Q E hr h => ?_
  refine ⟨_, (pss_cons (ps_set (i := 1) sc_check_towers.nd rfl (by first | exact .inl rfl | exact .inr rfl) (pe_has G_wrong_tower (hr.mono (by first | decide | omega)) (by rfl) (pa_cons (pv 0) pa_nil) (nx _))) (pss_one (ps_if (pt_cmpR op_notN (pv 1) pe_non (nomark _)) (pss_one ps_never) pss_nil))), body_F (n := 1) ?_ rfl h⟩
  exact (ss_seq (ss_asg (se_call (fun _ => .nil) (sa_cons se_var sa_nil)) sg_name) (ss_if (st_test (se_notN se_var se_non)) ss_never ss_next))
abbrev s_is_gapped : Stmt := topS 26
abbrev n_is_gapped : List Str := ["towers", "least", "most"]
theorem sc_is_gapped : FnScope n_is_gapped ["towers", "least", "most"] (defScope s_is_gapped) := ⟨rfl, rfl, rfl, by decide +kernel, rfl, by decide +kernel, by decide +kernel⟩
theorem H_is_gapped (bl : Bm mg) (nx : NoX CX) (G_check_towers : Has P w K mg base CX "check_towers" 4 ["towers"] [] (spF K 1 F_check_towers)) (G__check_bounds : Has P w K mg base CX "_check_bounds" 3 ["least", "most"] [] (spF K 2 F__check_bounds)) (G__is_gapped : Has P w K mg base CX "_is_gapped" 2 ["towers", "least", "most"] [] (spF K 3 F__is_gapped)) (F : FunD K "is_gapped" "is_gapped" (defArgs s_is_gapped) (defBody s_is_gapped) (defScope s_is_gapped) [] [] f fd) (hm : mg "is_gapped" = some (.ref f)) :
    Has P w K mg base CX "is_gapped" 5 ["towers", "least", "most"] [] (spF K 3 F_is_gapped) := by
  refine has_mk F hm sc_is_gapped (spF_len rfl) (fun _ _ _ _ _ _ us hl => match us, hl with | [_, _, _], _ => rfl) fun cdv A outer s H vs Q E hr h => ?_
  refine ⟨_, (pss_cons (ps_expr (pe_has G_check_towers (hr.mono (by first | decide | omega)) (by rfl) (pa_cons (pv 0) pa_nil) (nx _))) (pss_cons (ps_expr (pe_has G__check_bounds (hr.mono (by first | decide | omega)) (by rfl) (pa_cons (pv 1) (pa_cons (pv 2) pa_nil)) (nx _))) (pss_one (ps_ret (pe_has G__is_gapped (hr.mono (by first | decide | omega)) (by rfl) (pa_cons (pv 0) (pa_cons (pv 1) (pa_cons (pv 2) pa_nil))) (nx _)))))), body_F (n := 0) ?_ rfl h⟩
  exact (ss_seq (ss_drop (se_call (fun _ => .nil) (sa_cons se_var sa_nil))) (ss_seq (ss_drop (se_call (fun _ => .nil) (sa_cons se_var (sa_cons se_var sa_nil)))) (ss_ret (se_call (fun _ => .nil) (sa_cons se_var (sa_cons se_var (sa_cons se_var sa_nil)))))))
abbrev s__check_gaps : Stmt := topS 29
abbrev n__check_gaps : List Str := ["towers"]
theorem sc__check_gaps : FnScope n__check_gaps ["towers"] (defScope s__check_gaps) := ⟨rfl, rfl, rfl, by decide +kernel, rfl, by decide +kernel, by decide +kernel⟩
theorem H__check_gaps (bl : Bm mg) (nx : NoX CX) (G_check_towers : Has P w K mg base CX "check_towers" 4 ["towers"] [] (spF K 1 F_check_towers)) (G__is_gapped : Has P w K mg base CX "_is_gapped" 2 ["towers", "least", "most"] [] (spF K 3 F__is_gapped)) {u_GREATEST_GAP : Value} (g_GREATEST_GAP : mg "GREATEST_GAP" = some u_GREATEST_GAP) (r_GREATEST_GAP : RelV (.int 3) u_GREATEST_GAP) {u_LEAST_GAP : Value} (g_LEAST_GAP : mg "LEAST_GAP" = some u_LEAST_GAP) (r_LEAST_GAP : RelV (.int 1) u_LEAST_GAP) (F : FunD K "_check_gaps" "_check_gaps" (defArgs s__check_gaps) (defBody s__check_gaps) (defScope s__check_gaps) [] [] f fd) (hm : mg "_check_gaps" = some (.ref f)) :
    Has P w K mg base CX "_check_gaps" 5 ["towers"] [] (spF K 1 F__check_gaps) := by
  refine has_mk F hm sc__check_gaps (spF_len rfl) (fun _ _ _ _ _ _ us hl => match us, hl with | [_], _ => rfl) fun cdv A outer s H vs Q E hr h => ?_
  refine ⟨_, (pss_cons (ps_expr (pe_has G_check_towers (hr.mono (by first | decide | omega)) (by rfl) (pa_cons (pv 0) pa_nil) (nx _))) (pss_one (ps_if (pt_not (ptk_truU (K := K) rfl (pe_has G__is_gapped (hr.mono (by first | decide | omega)) (by rfl) (pa_cons (pv 0) (pa_cons (pe_glob (v := .int 1) (by rfl) g_LEAST_GAP r_LEAST_GAP) (pa_cons (pe_glob (v := .int 3) (by rfl) g_GREATEST_GAP r_GREATEST_GAP) pa_nil))) (nx _)))) (pss_one ps_never) pss_nil))), body_F (n := 0) ?_ rfl h⟩
  exact (ss_seq (ss_drop (se_call (fun _ => .nil) (sa_cons se_var sa_nil))) (ss_if (st_not (st_truU (se_call (fun _ => .nil) (sa_cons se_var (sa_cons se_int (sa_cons se_int sa_nil)))))) ss_never ss_next))
abbrev s__law_node : Stmt := topS 41
abbrev n__law_node : List Str := ["_law_rows_here", "_law_level", "_law_key", "_law_keys", "_law_parts", "_law_front", "_law_high", "_law_row"]
theorem sc__law_node : FnScope n__law_node ["_law_rows_here", "_law_level"] (defScope s__law_node) := ⟨rfl, rfl, rfl, by decide +kernel, rfl, by decide +kernel, by decide +kernel⟩
theorem HR__law_node (bl : Bm mg) (nx : NoX CX) (F : FunD K "_law_node" "_law_node" (defArgs s__law_node) (defBody s__law_node) (defScope s__law_node) [] [] f fd) (hm : mg "_law_node" = some (.ref f)) :
    ∀ n : Nat, Has P w K mg base CX "_law_node" (1 + n) ["_law_rows_here", "_law_level"] [] (spF K 2 (FR__law_node n)) := by
  intro n
  induction n with
  | zero =>
    refine has_mk F hm sc__law_node (spF_len rfl) (fun _ _ _ _ _ _ us hl => match us, hl with | [_, _], _ => rfl) fun cdv A outer s H vs Q E hr h => ?_
    exfalso
    obtain ⟨_, _, _, _, _, _, hF, _⟩ := h
    cases hF
  | succ n IH =>
    refine has_mk F hm sc__law_node (spF_len rfl) (fun _ _ _ _ _ _ us hl => match us, hl with | [_, _], _ => rfl) fun cdv A outer s H vs Q E hr h => ?_
    replace hr : Room (1 + n) _ := hr
    refine ⟨_, (pss_cons (ps_set (i := 3) sc__law_node.nd rfl (by first | exact .inl rfl | exact .inr rfl) (pe_callTy (ck_tupU (K := K) rfl) (by rfl) bl.tuple bb_tuple (pa_cons (pe_lc (own := [("_law_key", 2), ("_law_high", 6)]) (by rfl) sc__law_node.nd (pik_row (K := K) rfl (pv 0)) (blkOk_by (own := [("_law_key", 2), ("_law_high", 6)]) (N := n__law_node) (sc := defScope s__law_node) (by decide +kernel)) (fun _ _ _ _ _ => (pgk_row (K := K) (n := 2) rfl rfl (pgs_cons (pg_name (i := 2) sc__law_node.nd rfl (Or.inl rfl) (Or.inr rfl)) (pgs_cons (pg_name (i := 6) sc__law_node.nd rfl (Or.inl rfl) (Or.inr rfl)) pgs_nil rfl) rfl) rfl rfl)) (fun _ _ _ _ _ => (pts_one (pt_cmpR (ok_eqD (K := K) rfl hr.units) (pv 6) (pv 1) (nomark _)))) (fun _ _ _ _ _ => (pv 2))) pa_nil))) (pss_cons (ps_if (pt_cmpR (ok_eqD (K := K) rfl hr.units) (pv 1) pe_int (nomark _)) (pss_one (ps_ret (pe_tup (pa_cons (pv 3) (pa_cons (pe_tup pa_nil) pa_nil))))) pss_nil) (pss_cons (ps_par (i := 4) (j := 5) (by rfl) sc__law_node.nd rfl rfl (by decide) rfl rfl (pa_cons (pe_lst pa_nil) (pa_cons (pe_callTy (ck_lstU (K := K) rfl) (by rfl) bl.list bb_list (pa_cons (pv 0) pa_nil)) pa_nil)) (by rfl)) (pss_cons (ps_for PassesOwn.never rfl (pik_row (K := K) rfl (pv 3)) (pg_name (i := 2) sc__law_node.nd rfl (by first | exact .inl rfl | exact .inr rfl)) (pss_cons (ps_expr (pe_bm PySem.F.plainAttrs_list PySem.F.slot_list_append PySem.F.type_list_append mt_append (pv 4) (pa_cons (pe_has IH (hr.mono (by first | decide | omega)) (by rfl) (pa_cons (pe_lc (own := [("_law_row", 7)]) (by rfl) sc__law_node.nd (pik_row (K := K) rfl (pv 5)) (blkOk_by (own := [("_law_row", 7)]) (N := n__law_node) (sc := defScope s__law_node) (by decide +kernel)) (fun _ _ _ _ _ => (pg_name (i := 7) sc__law_node.nd rfl (Or.inl rfl) (Or.inr rfl))) (fun _ _ _ _ _ => (pts_one (pt_cmpR op_ltU (pe_ix (ixk_seq (K := K) rfl) (pv 7) pe_int (fun _ _ => rfl)) (pv 2) (nomark _)))) (fun _ _ _ _ _ => (pv 7))) (pa_cons (pe_op op_sub (pv 1) pe_int) pa_nil)) (nx _)) pa_nil))) (pss_one (ps_setLc (i := 5) (own := [("_law_row", 7)]) (by rfl) sc__law_node.nd rfl rfl (sw_true rfl rfl rfl (by decide +kernel)) (pik_row (K := K) rfl (pv 5)) (blkOk_by (own := [("_law_row", 7)]) (N := n__law_node) (sc := defScope s__law_node) (by decide +kernel)) (fun _ _ _ _ _ => (pg_name (i := 7) sc__law_node.nd rfl (Or.inl rfl) (Or.inr rfl))) (fun _ _ _ _ _ => (pts_one (pt_cmpR op_gtU (pe_ix (ixk_seq (K := K) rfl) (pv 7) pe_int (fun _ _ => rfl)) (pv 2) (nomark _)))) (fun _ _ _ _ _ => (pv 7)))))) (pss_one (ps_ret (pe_tup (pa_cons (pv 3) (pa_cons (pe_callTy (ck_tupU (K := K) rfl) (by rfl) bl.tuple bb_tuple (pa_cons (pe_op (ok_addU (K := K) rfl) (pv 4) (pe_lst (pa_cons (pe_has IH (hr.mono (by first | decide | omega)) (by rfl) (pa_cons (pv 5) (pa_cons (pe_op op_sub (pv 1) pe_int) pa_nil)) (nx _)) pa_nil))) pa_nil)) pa_nil))))))))), body_F (n := 6) ?_ rfl h⟩
    exact (ss_seq (ss_asg (se_tupC (sa_cons (se_fz (sl_lc (si_row se_var) (sg_row (sgs_cons sg_name (sgs_cons sg_name sgs_nil))) (st_test (se_eq se_var se_var)) se_var (by decide))) sa_nil)) sg_name) (ss_seq (ss_if (st_test (se_eq se_var se_int)) (ss_ret (se_tup (sa_cons se_var (sa_cons (se_tup sa_nil) sa_nil)))) ss_next) (ss_seq (ss_parX (sx_consL (sl_lst sa_nil) (sx_cons (se_fz (sl_lstC (sa_cons se_var sa_nil))) sx_nil))) (ss_seq (ss_for (si_row se_var) sg_name (ss_seq (ss_meth mf_app (sa_cons (se_call (fun _ => .nil) (sa_cons (se_fz (sl_lc (si_row se_var) sg_name (st_test (se_lt (se_ix se_var se_int) se_var)) se_var (by decide))) (sa_cons (se_sub se_var se_int) sa_nil))) sa_nil)) (ss_asg (se_fz (sl_lc (si_row se_var) sg_name (st_test (se_gt (se_ix se_var se_int) se_var)) se_var (by decide))) sg_name))) (ss_ret (se_tup (sa_cons se_var (sa_cons (se_tupC (sa_cons (se_add se_var (se_fz (sl_lst (sa_cons (se_call (fun _ => .nil) (sa_cons se_var (sa_cons (se_sub se_var se_int) sa_nil))) sa_nil)))) sa_nil)) sa_nil))))))))
theorem H__law_node (bl : Bm mg) (nx : NoX CX) (F : FunD K "_law_node" "_law_node" (defArgs s__law_node) (defBody s__law_node) (defScope s__law_node) [] [] f fd) (hm : mg "_law_node" = some (.ref f)) :
    Has P w K mg base CX "_law_node" 5 ["_law_rows_here", "_law_level"] [] (spF K 2 F__law_node) := HR__law_node bl nx F hm 4
abbrev s__law_rows : Stmt := topS 42
abbrev n__law_rows : List Str := ["_law_node_here", "_law_level", "_law_found", "_law_part", "_law_key"]
theorem sc__law_rows : FnScope n__law_rows ["_law_node_here", "_law_level"] (defScope s__law_rows) := ⟨rfl, rfl, rfl, by decide +kernel, rfl, by decide +kernel, by decide +kernel⟩
theorem HR__law_rows (bl : Bm mg) (nx : NoX CX) (F : FunD K "_law_rows" "_law_rows" (defArgs s__law_rows) (defBody s__law_rows) (defScope s__law_rows) [] [] f fd) (hm : mg "_law_rows" = some (.ref f)) :
    ∀ n : Nat, Has P w K mg base CX "_law_rows" (1 + n) ["_law_node_here", "_law_level"] [] (spL K 2 (FR__law_rows n)) := by
  intro n
  induction n with
  | zero =>
    refine has_mk F hm sc__law_rows (spL_len rfl) (fun _ _ _ _ _ _ us hl => match us, hl with | [_, _], _ => rfl) fun cdv A outer s H vs Q E hr h => ?_
    exfalso
    obtain ⟨_, _, _, _, _, _, hF, _⟩ := h
    cases hF
  | succ n IH =>
    refine has_mk F hm sc__law_rows (spL_len rfl) (fun _ _ _ _ _ _ us hl => match us, hl with | [_, _], _ => rfl) fun cdv A outer s H vs Q E hr h => ?_
    replace hr : Room (1 + n) _ := hr
    refine ⟨_, (pss_cons (ps_setLc (i := 2) (own := [("_law_key", 4)]) (by rfl) sc__law_rows.nd rfl rfl (sw_true rfl rfl rfl (by decide +kernel)) (pik_row (K := K) rfl (pe_ix (ixk_seq (K := K) rfl) (pv 0) pe_int (fun _ _ => rfl))) (blkOk_by (own := [("_law_key", 4)]) (N := n__law_rows) (sc := defScope s__law_rows) (by decide +kernel)) (fun _ _ _ _ _ => (pg_name (i := 4) sc__law_rows.nd rfl (Or.inl rfl) (Or.inr rfl))) (fun _ _ _ _ _ => pts_nil) (fun _ _ _ _ _ => (pe_tup (pa_cons (pv 4) (pa_cons (pv 1) pa_nil))))) (pss_cons (ps_for PassesOwn.never rfl (pik_row (K := K) rfl (pe_ix (ixk_seq (K := K) rfl) (pv 0) pe_int (fun _ _ => rfl))) (pg_name (i := 3) sc__law_rows.nd rfl (by first | exact .inl rfl | exact .inr rfl)) (pss_one (ps_set (i := 2) sc__law_rows.nd rfl (by first | exact .inl rfl | exact .inr rfl) (pe_op (ok_addU (K := K) rfl) (pv 2) (pe_has IH (hr.mono (by first | decide | omega)) (by rfl) (pa_cons (pv 3) (pa_cons (pe_op op_sub (pv 1) pe_int) pa_nil)) (nx _)))))) (pss_one (ps_ret (pe_callB (ck_sortedU (K := K) rfl) (by rfl) bl.sorted bb_sorted (pa_cons (pv 2) pa_nil)))))), body_L (n := 3) ?_ rfl h⟩
    exact (ss_seq (ss_asg (se_fz (sl_lc (si_row (se_ix se_var se_int)) sg_name st_yes (se_tup (sa_cons se_var (sa_cons se_var sa_nil))) (by decide))) sg_name) (ss_seq (ss_for (si_row (se_ix se_var se_int)) sg_name (ss_asg (se_add se_var (se_fz (sl_call (fun _ => .nil) (sa_cons se_var (sa_cons (se_sub se_var se_int) sa_nil))))) sg_name)) (ss_retL (sl_sortedU (sa_cons se_var sa_nil)))))
theorem H__law_rows (bl : Bm mg) (nx : NoX CX) (F : FunD K "_law_rows" "_law_rows" (defArgs s__law_rows) (defBody s__law_rows) (defScope s__law_rows) [] [] f fd) (hm : mg "_law_rows" = some (.ref f)) :
    Has P w K mg base CX "_law_rows" 5 ["_law_node_here", "_law_level"] [] (spL K 2 F__law_rows) := HR__law_rows bl nx F hm 4
abbrev s__law_last : Stmt := topS 43
abbrev n__law_last : List Str := ["_law_node_here"]
theorem sc__law_last : FnScope n__law_last ["_law_node_here"] (defScope s__law_last) := ⟨rfl, rfl, rfl, by decide +kernel, rfl, by decide +kernel, by decide +kernel⟩
theorem HR__law_last (bl : Bm mg) (nx : NoX CX) (F : FunD K "_law_last" "_law_last" (defArgs s__law_last) (defBody s__law_last) (defScope s__law_last) [] [] f fd) (hm : mg "_law_last" = some (.ref f)) :
    ∀ n : Nat, Has P w K mg base CX "_law_last" (1 + n) ["_law_node_here"] [] (spF K 1 (FR__law_last n)) := by
  intro n
  induction n with
  | zero =>
    refine has_mk F hm sc__law_last (spF_len rfl) (fun _ _ _ _ _ _ us hl => match us, hl with | [_], _ => rfl) fun cdv A outer s H vs Q E hr h => ?_
    exfalso
    obtain ⟨_, _, _, _, _, _, hF, _⟩ := h
    cases hF
  | succ n IH =>
    refine has_mk F hm sc__law_last (spF_len rfl) (fun _ _ _ _ _ _ us hl => match us, hl with | [_], _ => rfl) fun cdv A outer s H vs Q E hr h => ?_
    replace hr : Room (1 + n) _ := hr
    refine ⟨_, (pss_one (ps_ret (pe_ifExp (pt_cmpR (ok_eqD (K := K) rfl hr.units) (pe_ix (ixk_seq (K := K) rfl) (pv 0) pe_int (fun _ _ => rfl)) (pe_tup pa_nil) (nomark _)) (pe_ix (ixk_seq (K := K) rfl) (pe_ix (ixk_seq (K := K) rfl) (pv 0) pe_int (fun _ _ => rfl)) (pe_un un_neg pe_int) (fun _ _ => rfl)) (pe_has IH (hr.mono (by first | decide | omega)) (by rfl) (pa_cons (pe_ix (ixk_seq (K := K) rfl) (pe_ix (ixk_seq (K := K) rfl) (pv 0) pe_int (fun _ _ => rfl)) (pe_un un_neg pe_int) (fun _ _ => rfl)) pa_nil) (nx _))))), body_F (n := 0) ?_ rfl h⟩
    exact (ss_ret (se_if (st_test (se_eq (se_ix se_var se_int) (se_tup sa_nil))) (se_ix (se_ix se_var se_int) (se_neg se_int)) (se_call (fun _ => .nil) (sa_cons (se_ix (se_ix se_var se_int) (se_neg se_int)) sa_nil))))
theorem H__law_last (bl : Bm mg) (nx : NoX CX) (F : FunD K "_law_last" "_law_last" (defArgs s__law_last) (defBody s__law_last) (defScope s__law_last) [] [] f fd) (hm : mg "_law_last" = some (.ref f)) :
    Has P w K mg base CX "_law_last" 5 ["_law_node_here"] [] (spF K 1 F__law_last) := HR__law_last bl nx F hm 4
abbrev s_out_gapped : Stmt := topS 27
abbrev n_out_gapped : List Str := ["towers", "key", "place", "heights", "rows", "level", "other", "height"]
theorem sc_out_gapped : FnScope n_out_gapped ["towers", "key"] (defScope s_out_gapped) := ⟨rfl, rfl, rfl, by decide +kernel, rfl, by decide +kernel, by decide +kernel⟩
theorem H_out_gapped (bl : Bm mg) (nx : NoX CX) (G__check_gaps : Has P w K mg base CX "_check_gaps" 5 ["towers"] [] (spF K 1 F__check_gaps)) (G_check_key : Has P w K mg base CX "check_key" 2 ["key"] [] (spF K 1 F_check_key)) (G_has_key : Has P w K mg base CX "has_key" 2 ["towers", "key"] [] (spF K 2 F_has_key)) (G_count_below : Has P w K mg base CX "count_below" 1 ["towers", "key"] [] (spF K 2 F_count_below)) (G_without_key : Has P w K mg base CX "without_key" 2 ["towers", "key"] [] (spF K 2 F_without_key)) (G__with_heights : Has P w K mg base CX "_with_heights" 1 ["towers", "heights"] [] (spF K 2 F__with_heights)) (G__fill_gap : Has P w K mg base CX "_fill_gap" 3 ["heights", "level"] [] (spM K 2 F__fill_gap)) (F : FunD K "out_gapped" "out_gapped" (defArgs s_out_gapped) (defBody s_out_gapped) (defScope s_out_gapped) [] [] f fd) (hm : mg "out_gapped" = some (.ref f)) :
    Has P w K mg base CX "out_gapped" 6 ["towers", "key"] [] (spF K 2 F_out_gapped) := by
  refine has_mk F hm sc_out_gapped (spF_len rfl) (fun _ _ _ _ _ _ us hl => match us, hl with | [_, _], _ => rfl) fun cdv A outer s H vs Q E hr h => ?_
  refine ⟨_, (pss_cons (ps_expr (pe_has G__check_gaps (hr.mono (by first | decide | omega)) (by rfl) (pa_cons (pv 0) pa_nil) (nx _))) (pss_cons (ps_expr (pe_has G_check_key (hr.mono (by first | decide | omega)) (by rfl) (pa_cons (pv 1) pa_nil) (nx _))) (pss_cons (ps_if (pt_not (ptk_truU (K := K) rfl (pe_has G_has_key (hr.mono (by first | decide | omega)) (by rfl) (pa_cons (pv 0) (pa_cons (pv 1) pa_nil)) (nx _)))) (pss_one ps_never) pss_nil) (pss_cons (ps_set (i := 2) sc_out_gapped.nd rfl (by first | exact .inl rfl | exact .inr rfl) (pe_has G_count_below (hr.mono (by first | decide | omega)) (by rfl) (pa_cons (pv 0) (pa_cons (pv 1) pa_nil)) (nx _))) (pss_cons (ps_setLc (i := 3) (own := [("other", 6), ("height", 7)]) (by rfl) sc_out_gapped.nd rfl rfl (sw_true rfl rfl rfl (by decide +kernel)) (pik_row (K := K) rfl (pv 0)) (blkOk_by (own := [("other", 6), ("height", 7)]) (N := n_out_gapped) (sc := defScope s_out_gapped) (by decide +kernel)) (fun _ _ _ _ _ => (pgk_row (K := K) (n := 2) rfl rfl (pgs_cons (pg_name (i := 6) sc_out_gapped.nd rfl (Or.inl rfl) (Or.inr rfl)) (pgs_cons (pg_name (i := 7) sc_out_gapped.nd rfl (Or.inl rfl) (Or.inr rfl)) pgs_nil rfl) rfl) rfl rfl)) (fun _ _ _ _ _ => pts_nil) (fun _ _ _ _ _ => (pv 7))) (pss_cons (ps_if (pt_cmpR op_gtU (pe_ix (ixk_seq (K := K) rfl) (pv 3) (pv 2) (fun _ _ => rfl)) pe_int (nomark _)) (pss_one (ps_asg (pe_ix (ixk_seq (K := K) rfl) (pv 3) (pv 2) (fun _ _ => rfl)) (pg_sub (pv 3) (pe_op op_sub (pv 2) pe_int) set_list))) pss_nil) (pss_cons (ps_set (i := 4) sc_out_gapped.nd rfl (by first | exact .inl rfl | exact .inr rfl) (pe_has G_without_key (hr.mono (by first | decide | omega)) (by rfl) (pa_cons (pe_has G__with_heights (hr.mono (by first | decide | omega)) (by rfl) (pa_cons (pv 0) (pa_cons (pv 3) pa_nil)) (nx _)) (pa_cons (pv 1) pa_nil)) (nx _))) (pss_cons (ps_setLc (i := 3) (own := [("other", 6), ("height", 7)]) (by rfl) sc_out_gapped.nd rfl rfl (sw_true rfl rfl rfl (by decide +kernel)) (pik_row (K := K) rfl (pv 4)) (blkOk_by (own := [("other", 6), ("height", 7)]) (N := n_out_gapped) (sc := defScope s_out_gapped) (by decide +kernel)) (fun _ _ _ _ _ => (pgk_row (K := K) (n := 2) rfl rfl (pgs_cons (pg_name (i := 6) sc_out_gapped.nd rfl (Or.inl rfl) (Or.inr rfl)) (pgs_cons (pg_name (i := 7) sc_out_gapped.nd rfl (Or.inl rfl) (Or.inr rfl)) pgs_nil rfl) rfl) rfl rfl)) (fun _ _ _ _ _ => pts_nil) (fun _ _ _ _ _ => (pv 7))) (pss_cons (ps_set (i := 5) sc_out_gapped.nd rfl (by first | exact .inl rfl | exact .inr rfl) pe_int) (pss_cons (ps_while PassesOwn.never (ptk_truU (K := K) rfl (pe_has G__fill_gap (hr.mono (by first | decide | omega)) (by rfl) (pa_cons (pv 3) (pa_cons (pv 5) pa_nil)) (nx _))) (pss_one (ps_aug (i := 5) sc_out_gapped.nd rfl (by first | exact .inl rfl | exact .inr rfl) pe_int ip_add))) (pss_one (ps_ret (pe_has G__with_heights (hr.mono (by first | decide | omega)) (by rfl) (pa_cons (pv 4) (pa_cons (pv 3) pa_nil)) (nx _)))))))))))))), body_F (n := 6) ?_ rfl h⟩
  exact (ss_seq (ss_drop (se_call (fun _ => .nil) (sa_cons se_var sa_nil))) (ss_seq (ss_drop (se_call (fun _ => .nil) (sa_cons se_var sa_nil))) (ss_seq (ss_if (st_not (st_truU (se_call (fun _ => .nil) (sa_cons se_var (sa_cons se_var sa_nil))))) ss_never ss_next) (ss_seq (ss_asg (se_call (fun _ => .nil) (sa_cons se_var (sa_cons se_var sa_nil))) sg_name) (ss_seq (ss_asgO (sl_lc (si_row se_var) (sg_row (sgs_cons sg_name (sgs_cons sg_name sgs_nil))) st_yes se_var (by decide))) (ss_seq (ss_if (st_test (se_gt (se_ixV se_var) se_int)) (ss_setIx (se_ixV se_var) (se_sub se_var se_int)) ss_next) (ss_seq (ss_asg (se_call (fun _ => .nil) (sa_cons (se_call (fun _ => .nil) (sa_cons se_var (sa_cons se_var sa_nil))) (sa_cons se_var sa_nil))) sg_name) (ss_seq (ss_asgO (sl_lc (si_row se_var) (sg_row (sgs_cons sg_name (sgs_cons sg_name sgs_nil))) st_yes se_var (by decide))) (ss_seq (ss_asg se_int sg_name) (ss_seq (ss_while (st_truU (se_callM (sa_cons se_var sa_nil))) (ss_aug se_int)) (ss_ret (se_call (fun _ => .nil) (sa_cons se_var (sa_cons se_var sa_nil))))))))))))))
abbrev s__law_woven : Stmt := topS 49
abbrev n__law_woven : List Str := ["_law_source_here", "_law_level", "_law_found", "_law_turn"]
theorem sc__law_woven : FnScope n__law_woven ["_law_source_here", "_law_level"] (defScope s__law_woven) := ⟨rfl, rfl, rfl, by decide +kernel, rfl, by decide +kernel, by decide +kernel⟩
theorem HR__law_woven (bl : Bm mg) (nx : NoX CX) (G__law_next : Has P w K mg base CX "_law_next" 1 ["_law_source_here", "_law_many"] [] (spM K 2 F__law_next)) (F : FunD K "_law_woven" "_law_woven" (defArgs s__law_woven) (defBody s__law_woven) (defScope s__law_woven) [] [] f fd) (hm : mg "_law_woven" = some (.ref f)) :
    ∀ n : Nat, Has P w K mg base CX "_law_woven" (2 + n) ["_law_source_here", "_law_level"] [] (spM K 2 (FR__law_woven n)) := by
  intro n
  induction n with
  | zero =>
    refine has_mk F hm sc__law_woven (spM_len rfl) (fun _ _ _ _ _ _ us hl => match us, hl with | [_, _], _ => rfl) fun cdv A outer s H vs Q E hr h => ?_
    exfalso
    obtain ⟨_, _, _, _, _, _, _, _, _, _, _, _, _, _, _, hF, _⟩ := h
    cases hF
  | succ n IH =>
    refine has_mk F hm sc__law_woven (spM_len rfl) (fun _ _ _ _ _ _ us hl => match us, hl with | [_, _], _ => rfl) fun cdv A outer s H vs Q E hr h => ?_
    replace hr : Room (2 + n) _ := hr
    refine ⟨_, (pss_cons (ps_if (pt_cmpR (ok_eqD (K := K) rfl hr.units) (pv 1) pe_int (nomark _)) (pss_one (ps_ret (pe_lst pa_nil))) pss_nil) (pss_cons (ps_set (i := 2) sc__law_woven.nd rfl (by first | exact .inl rfl | exact .inr rfl) (pe_has IH (hr.mono (by first | decide | omega)) (by rfl) (pa_cons (pv 0) (pa_cons (pe_op op_sub (pv 1) pe_int) pa_nil)) (nx _))) (pss_cons (ps_for PassesOwn.never rfl (pi_range1 rfl bl.range (pa_cons (pe_ix (ixk_seq (K := K) rfl) (pe_lst (pa_cons pe_int (pa_cons pe_int (pa_cons pe_int (pa_cons pe_int (pa_cons pe_int pa_nil)))))) (pe_has G__law_next (hr.mono (by first | decide | omega)) (by rfl) (pa_cons (pv 0) (pa_cons pe_int pa_nil)) (nx _)) (fun _ _ => rfl)) pa_nil)) (pg_name (i := 3) sc__law_woven.nd rfl (by first | exact .inl rfl | exact .inr rfl)) (pss_one (ps_set (i := 2) sc__law_woven.nd rfl (by first | exact .inl rfl | exact .inr rfl) (pe_op (ok_addU (K := K) rfl) (pe_op (ok_addU (K := K) rfl) (pv 2) (pe_lst (pa_cons (pv 1) pa_nil))) (pe_has IH (hr.mono (by first | decide | omega)) (by rfl) (pa_cons (pv 0) (pa_cons (pe_op op_sub (pv 1) pe_int) pa_nil)) (nx _)))))) (pss_one (ps_ret (pv 2)))))), body_M (n := 2) ?_ rfl h⟩
    exact (ss_seq (ss_if (st_test (se_eq se_var se_int)) (ss_ret (se_fz (sl_lst sa_nil))) ss_next) (ss_seq (ss_asg (se_callM (sa_cons (se_sub se_var se_int) sa_nil)) sg_name) (ss_seq (ss_for (si_rg1 (sa_cons (se_ix (se_fz (sl_lst (sa_cons se_int (sa_cons se_int (sa_cons se_int (sa_cons se_int (sa_cons se_int sa_nil))))))) (se_callM (sa_cons se_int sa_nil))) sa_nil)) sg_name (ss_asg (se_add (se_add se_var (se_fz (sl_lst (sa_cons se_var sa_nil)))) (se_callM (sa_cons (se_sub se_var se_int) sa_nil))) sg_name)) (ss_ret se_var))))
theorem H__law_woven (bl : Bm mg) (nx : NoX CX) (G__law_next : Has P w K mg base CX "_law_next" 1 ["_law_source_here", "_law_many"] [] (spM K 2 F__law_next)) (F : FunD K "_law_woven" "_law_woven" (defArgs s__law_woven) (defBody s__law_woven) (defScope s__law_woven) [] [] f fd) (hm : mg "_law_woven" = some (.ref f)) :
    Has P w K mg base CX "_law_woven" 6 ["_law_source_here", "_law_level"] [] (spM K 2 F__law_woven) := HR__law_woven bl nx G__law_next F hm 4
abbrev s__law_taken : Stmt := topS 46
abbrev n__law_taken : List Str := ["_law_node_here", "_law_key", "_law_keys", "_law_parts", "_law_at", "_law_last_here", "_law_one"]
theorem sc__law_taken : FnScope n__law_taken ["_law_node_here", "_law_key"] (defScope s__law_taken) := ⟨rfl, rfl, rfl, by decide +kernel, rfl, by decide +kernel, by decide +kernel⟩
theorem HR__law_taken (bl : Bm mg) (nx : NoX CX) (G__law_last : Has P w K mg base CX "_law_last" 5 ["_law_node_here"] [] (spF K 1 F__law_last)) (G__law_behind : Has P w K mg base CX "_law_behind" 1 ["_law_keys", "_law_parts", "_law_at"] [] (spF K 3 F__law_behind)) (G__law_ahead : Has P w K mg base CX "_law_ahead" 1 ["_law_keys", "_law_parts", "_law_at"] [] (spF K 3 F__law_ahead)) (F : FunD K "_law_taken" "_law_taken" (defArgs s__law_taken) (defBody s__law_taken) (defScope s__law_taken) [] [] f fd) (hm : mg "_law_taken" = some (.ref f)) :
    ∀ n : Nat, Has P w K mg base CX "_law_taken" (6 + n) ["_law_node_here", "_law_key"] [] (spF K 2 (FR__law_taken n)) := by
  intro n
  induction n with
  | zero =>
    refine has_mk F hm sc__law_taken (spF_len rfl) (fun _ _ _ _ _ _ us hl => match us, hl with | [_, _], _ => rfl) fun cdv A outer s H vs Q E hr h => ?_
    exfalso
    obtain ⟨_, _, _, _, _, _, hF, _⟩ := h
    cases hF
  | succ n IH =>
    refine has_mk F hm sc__law_taken (spF_len rfl) (fun _ _ _ _ _ _ us hl => match us, hl with | [_, _], _ => rfl) fun cdv A outer s H vs Q E hr h => ?_
    replace hr : Room (6 + n) _ := hr
    refine ⟨_, (pss_cons (ps_asg (pv 0) (pgk_row (K := K) (n := 2) rfl rfl (pgs_cons (pg_name (i := 2) sc__law_taken.nd rfl (by first | exact .inl rfl | exact .inr rfl)) (pgs_cons (pg_name (i := 3) sc__law_taken.nd rfl (by first | exact .inl rfl | exact .inr rfl)) pgs_nil)))) (pss_cons (ps_if (pt_cmpR (ok_eqD (K := K) rfl hr.units) (pv 3) (pe_tup pa_nil) (nomark _)) (pss_one (ps_ret (pe_tup (pa_cons (pe_callTy (ck_tupU (K := K) rfl) (by rfl) bl.tuple bb_tuple (pa_cons (pe_lc (own := [("_law_one", 6)]) (by rfl) sc__law_taken.nd (pik_row (K := K) rfl (pv 2)) (blkOk_by (own := [("_law_one", 6)]) (N := n__law_taken) (sc := defScope s__law_taken) (by decide +kernel)) (fun _ _ _ _ _ => (pg_name (i := 6) sc__law_taken.nd rfl (Or.inl rfl) (Or.inr rfl))) (fun _ _ _ _ _ => (pts_one (pt_cmpR (ok_neD (K := K) rfl hr.units) (pv 6) (pv 1) (nomark _)))) (fun _ _ _ _ _ => (pv 6))) pa_nil)) (pa_cons (pe_tup pa_nil) pa_nil))))) pss_nil) (pss_cons (ps_set (i := 4) sc__law_taken.nd rfl (by first | exact .inl rfl | exact .inr rfl) (pe_callB (ck_lenU (K := K) rfl) (by rfl) bl.len bb_len (pa_cons (pe_lc (own := [("_law_one", 6)]) (by rfl) sc__law_taken.nd (pik_row (K := K) rfl (pv 2)) (blkOk_by (own := [("_law_one", 6)]) (N := n__law_taken) (sc := defScope s__law_taken) (by decide +kernel)) (fun _ _ _ _ _ => (pg_name (i := 6) sc__law_taken.nd rfl (Or.inl rfl) (Or.inr rfl))) (fun _ _ _ _ _ => (pts_one (pt_cmpR op_ltU (pv 6) (pv 1) (nomark _)))) (fun _ _ _ _ _ => (pv 6))) pa_nil))) (pss_cons (ps_if (pt_cmpR (ok_inU (K := K) rfl (room65 hr)) (pv 1) (pv 2) (by rfl)) (pss_cons (ps_set (i := 5) sc__law_taken.nd rfl (by first | exact .inl rfl | exact .inr rfl) (pe_has G__law_last (hr.mono (by first | decide | omega)) (by rfl) (pa_cons (pe_ix (ixk_seq (K := K) rfl) (pv 3) (pv 4) (fun _ _ => rfl)) pa_nil) (nx _))) (pss_one (ps_asg (pe_tup (pa_cons (pe_op (ok_addU (K := K) rfl) (pe_op (ok_addU (K := K) rfl) (pe_slice (slk_sliceU (K := K) rfl) (pv 2) po_none (po_some (pv 4))) (pe_tup (pa_cons (pv 5) pa_nil))) (pe_slice (slk_sliceU (K := K) rfl) (pv 2) (po_some (pe_op (ok_addU (K := K) rfl) (pv 4) pe_int)) po_none)) (pa_cons (pv 5) pa_nil))) (pgk_row (K := K) (n := 2) rfl rfl (pgs_cons (pg_name (i := 2) sc__law_taken.nd rfl (by first | exact .inl rfl | exact .inr rfl)) (pgs_cons (pg_name (i := 1) sc__law_taken.nd rfl (by first | exact .inl rfl | exact .inr rfl)) pgs_nil)))))) pss_nil) (pss_cons (ps_set (i := 3) sc__law_taken.nd rfl (by first | exact .inl rfl | exact .inr rfl) (pe_op (ok_addU (K := K) rfl) (pe_op (ok_addU (K := K) rfl) (pe_slice (slk_sliceU (K := K) rfl) (pv 3) po_none (po_some (pv 4))) (pe_tup (pa_cons (pe_has IH (hr.mono (by first | decide | omega)) (by rfl) (pa_cons (pe_ix (ixk_seq (K := K) rfl) (pv 3) (pv 4) (fun _ _ => rfl)) (pa_cons (pv 1) pa_nil)) (nx _)) pa_nil))) (pe_slice (slk_sliceU (K := K) rfl) (pv 3) (po_some (pe_op (ok_addU (K := K) rfl) (pv 4) pe_int)) po_none))) (pss_cons (ps_if (pt_cmpR (ok_neD (K := K) rfl hr.units) (pe_ix (ixk_seq (K := K) rfl) (pe_ix (ixk_seq (K := K) rfl) (pv 3) (pv 4) (fun _ _ => rfl)) pe_int (fun _ _ => rfl)) (pe_tup pa_nil) (nomark _)) (pss_one (ps_ret (pe_tup (pa_cons (pv 2) (pa_cons (pv 3) pa_nil))))) pss_nil) (pss_one (ps_ret (pe_ifExp (pt_cmpR op_ltU (pv 4) (pe_callB (ck_lenU (K := K) rfl) (by rfl) bl.len bb_len (pa_cons (pv 2) pa_nil)) (nomark _)) (pe_has G__law_behind (hr.mono (by first | decide | omega)) (by rfl) (pa_cons (pv 2) (pa_cons (pv 3) (pa_cons (pv 4) pa_nil))) (nx _)) (pe_has G__law_ahead (hr.mono (by first | decide | omega)) (by rfl) (pa_cons (pv 2) (pa_cons (pv 3) (pa_cons (pv 4) pa_nil))) (nx _))))))))))), body_F (n := 5) ?_ rfl h⟩
    exact (ss_seq (ss_asg se_var (sg_row (sgs_cons sg_name (sgs_cons sg_name sgs_nil)))) (ss_seq (ss_if (st_test (se_eq se_var (se_tup sa_nil))) (ss_ret (se_tup (sa_cons (se_tupC (sa_cons (se_fz (sl_lc (si_row se_var) sg_name (st_test (se_ne se_var se_var)) se_var (by decide))) sa_nil)) (sa_cons (se_tup sa_nil) sa_nil)))) ss_next) (ss_seq (ss_asg (se_len (sa_cons (se_fz (sl_lc (si_row se_var) sg_name (st_test (se_lt se_var se_var)) se_var (by decide))) sa_nil)) sg_name) (ss_seq (ss_if (st_test (se_inX se_var se_var)) (ss_seq (ss_asg (se_call (fun _ => .nil) (sa_cons (se_ix se_var se_var) sa_nil)) sg_name) (ss_asg (se_tup (sa_cons (se_add (se_add (se_sl se_var so_none (so_some se_var)) (se_tup (sa_cons se_var sa_nil))) (se_sl se_var (so_some (se_add se_var se_int)) so_none)) (sa_cons se_var sa_nil))) (sg_row (sgs_cons sg_name (sgs_cons sg_name sgs_nil))))) ss_next) (ss_seq (ss_asg (se_add (se_add (se_sl se_var so_none (so_some se_var)) (se_tup (sa_cons (se_call (fun _ => .nil) (sa_cons (se_ix se_var se_var) (sa_cons se_var sa_nil))) sa_nil))) (se_sl se_var (so_some (se_add se_var se_int)) so_none)) sg_name) (ss_seq (ss_if (st_test (se_ne (se_ix (se_ix se_var se_var) se_int) (se_tup sa_nil))) (ss_ret (se_tup (sa_cons se_var (sa_cons se_var sa_nil)))) ss_next) (ss_ret (se_if (st_test (se_lt se_var (se_len (sa_cons se_var sa_nil)))) (se_call (fun _ => .nil) (sa_cons se_var (sa_cons se_var (sa_cons se_var sa_nil)))) (se_call (fun _ => .nil) (sa_cons se_var (sa_cons se_var (sa_cons se_var sa_nil))))))))))))
theorem H__law_taken (bl : Bm mg) (nx : NoX CX) (G__law_last : Has P w K mg base CX "_law_last" 5 ["_law_node_here"] [] (spF K 1 F__law_last)) (G__law_behind : Has P w K mg base CX "_law_behind" 1 ["_law_keys", "_law_parts", "_law_at"] [] (spF K 3 F__law_behind)) (G__law_ahead : Has P w K mg base CX "_law_ahead" 1 ["_law_keys", "_law_parts", "_law_at"] [] (spF K 3 F__law_ahead)) (F : FunD K "_law_taken" "_law_taken" (defArgs s__law_taken) (defBody s__law_taken) (defScope s__law_taken) [] [] f fd) (hm : mg "_law_taken" = some (.ref f)) :
    Has P w K mg base CX "_law_taken" 10 ["_law_node_here", "_law_key"] [] (spF K 2 F__law_taken) := HR__law_taken bl nx G__law_last G__law_behind G__law_ahead F hm 4
abbrev s__law_due : Stmt := topS 47
abbrev n__law_due : List Str := ["_law_rows_here", "_law_key", "_law_level", "_law_node_here", "_law_one", "_law_high"]
theorem sc__law_due : FnScope n__law_due ["_law_rows_here", "_law_key"] (defScope s__law_due) := ⟨rfl, rfl, rfl, by decide +kernel, rfl, by decide +kernel, by decide +kernel⟩
theorem H__law_due (bl : Bm mg) (nx : NoX CX) (G__law_taken : Has P w K mg base CX "_law_taken" 10 ["_law_node_here", "_law_key"] [] (spF K 2 F__law_taken)) (G__law_node : Has P w K mg base CX "_law_node" 5 ["_law_rows_here", "_law_level"] [] (spF K 2 F__law_node)) (G__law_rows : Has P w K mg base CX "_law_rows" 5 ["_law_node_here", "_law_level"] [] (spL K 2 F__law_rows)) (F : FunD K "_law_due" "_law_due" (defArgs s__law_due) (defBody s__law_due) (defScope s__law_due) [] [] f fd) (hm : mg "_law_due" = some (.ref f)) :
    Has P w K mg base CX "_law_due" 11 ["_law_rows_here", "_law_key"] [] (spF K 2 F__law_due) := by
  refine has_mk F hm sc__law_due (spF_len rfl) (fun _ _ _ _ _ _ us hl => match us, hl with | [_, _], _ => rfl) fun cdv A outer s H vs Q E hr h => ?_
  refine ⟨_, (pss_cons (ps_set (i := 2) sc__law_due.nd rfl (by first | exact .inl rfl | exact .inr rfl) (pe_callB (ck_max (K := K) rfl rfl) (by rfl) bl.max bb_max (pa_cons (pe_lc (own := [("_law_one", 4), ("_law_high", 5)]) (by rfl) sc__law_due.nd (pik_row (K := K) rfl (pv 0)) (blkOk_by (own := [("_law_one", 4), ("_law_high", 5)]) (N := n__law_due) (sc := defScope s__law_due) (by decide +kernel)) (fun _ _ _ _ _ => (pgk_row (K := K) (n := 2) rfl rfl (pgs_cons (pg_name (i := 4) sc__law_due.nd rfl (Or.inl rfl) (Or.inr rfl)) (pgs_cons (pg_name (i := 5) sc__law_due.nd rfl (Or.inl rfl) (Or.inr rfl)) pgs_nil rfl) rfl) rfl rfl)) (fun _ _ _ _ _ => pts_nil) (fun _ _ _ _ _ => (pv 5))) pa_nil))) (pss_cons (ps_set (i := 3) sc__law_due.nd rfl (by first | exact .inl rfl | exact .inr rfl) (pe_has G__law_taken (hr.mono (by first | decide | omega)) (by rfl) (pa_cons (pe_has G__law_node (hr.mono (by first | decide | omega)) (by rfl) (pa_cons (pv 0) (pa_cons (pv 2) pa_nil)) (nx _)) (pa_cons (pv 1) pa_nil)) (nx _))) (pss_cons (ps_if (pt_cmpR (ok_eqD (K := K) rfl hr.units) (pe_ix (ixk_seq (K := K) rfl) (pv 3) pe_int (fun _ _ => rfl)) (pe_tup pa_nil) (nomark _)) (pss_one (ps_ret (pe_ifExp (pt_cmpR (ok_neD (K := K) rfl hr.units) (pe_ix (ixk_seq (K := K) rfl) (pv 3) pe_int (fun _ _ => rfl)) (pe_tup pa_nil) (nomark _)) (pe_has G__law_rows (hr.mono (by first | decide | omega)) (by rfl) (pa_cons (pe_ix (ixk_seq (K := K) rfl) (pe_ix (ixk_seq (K := K) rfl) (pv 3) pe_int (fun _ _ => rfl)) pe_int (fun _ _ => rfl)) (pa_cons (pe_op op_sub (pv 2) pe_int) pa_nil)) (nx _)) (pe_lst pa_nil)))) pss_nil) (pss_one (ps_ret (pe_has G__law_rows (hr.mono (by first | decide | omega)) (by rfl) (pa_cons (pv 3) (pa_cons (pv 2) pa_nil)) (nx _))))))), body_F (n := 4) ?_ rfl h⟩
  exact (ss_seq (ss_asg (se_maxL (sa_cons (se_fz (sl_lc (si_row se_var) (sg_row (sgs_cons sg_name (sgs_cons sg_name sgs_nil))) st_yes se_var (by decide))) sa_nil)) sg_name) (ss_seq (ss_asg (se_call (fun _ => .nil) (sa_cons (se_call (fun _ => .nil) (sa_cons se_var (sa_cons se_var sa_nil))) (sa_cons se_var sa_nil))) sg_name) (ss_seq (ss_if (st_test (se_eq (se_ix se_var se_int) (se_tup sa_nil))) (ss_ret (se_if (st_test (se_ne (se_ix se_var se_int) (se_tup sa_nil))) (se_fz (sl_call (fun _ => .nil) (sa_cons (se_ix (se_ix se_var se_int) se_int) (sa_cons (se_sub se_var se_int) sa_nil)))) (se_fz (sl_lst sa_nil)))) ss_next) (ss_ret (se_fz (sl_call (fun _ => .nil) (sa_cons se_var (sa_cons se_var sa_nil))))))))
abbrev s__law_is_right : Stmt := topS 48
abbrev n__law_is_right : List Str := ["_law_rows_here", "_law_key", "_law_heard", "_law_one", "_law_high", "_law_row"]
theorem sc__law_is_right : FnScope n__law_is_right ["_law_rows_here", "_law_key"] (defScope s__law_is_right) := ⟨rfl, rfl, rfl, by decide +kernel, rfl, by decide +kernel, by decide +kernel⟩
theorem H__law_is_right (bl : Bm mg) (nx : NoX CX) (G_out_gapped : Has P w K mg base CX "out_gapped" 6 ["towers", "key"] [] (spF K 2 F_out_gapped)) (G_is_gapped : Has P w K mg base CX "is_gapped" 5 ["towers", "least", "most"] [] (spF K 3 F_is_gapped)) (G__law_due : Has P w K mg base CX "_law_due" 11 ["_law_rows_here", "_law_key"] [] (spF K 2 F__law_due)) (F : FunD K "_law_is_right" "_law_is_right" (defArgs s__law_is_right) (defBody s__law_is_right) (defScope s__law_is_right) [] [] f fd) (hm : mg "_law_is_right" = some (.ref f)) :
    Has P w K mg base CX "_law_is_right" 12 ["_law_rows_here", "_law_key"] [] (spF K 2 F__law_is_right) := by
  refine has_mk F hm sc__law_is_right (spF_len rfl) (fun _ _ _ _ _ _ us hl => match us, hl with | [_, _], _ => rfl) fun cdv A outer s H vs Q E hr h => ?_
  refine ⟨_, (pss_cons (ps_set (i := 2) sc__law_is_right.nd rfl (by first | exact .inl rfl | exact .inr rfl) (pe_has G_out_gapped (hr.mono (by first | decide | omega)) (by rfl) (pa_cons (pe_callTy (ck_tupU (K := K) rfl) (by rfl) bl.tuple bb_tuple (pa_cons (pv 0) pa_nil)) (pa_cons (pv 1) pa_nil)) (nx _))) (pss_cons (ps_if (PW.pt (pw_or (pt_cmpR (ok_neD (K := K) rfl hr.units) (pv 2) (pe_callTy (ck_tupU (K := K) rfl) (by rfl) bl.tuple bb_tuple (pa_cons (pe_has G__law_due (hr.mono (by first | decide | omega)) (by rfl) (pa_cons (pv 0) (pa_cons (pv 1) pa_nil)) (nx _)) pa_nil)) (nomark _)) (pw_or1 (pt_not (ptk_truU (K := K) rfl (pe_has G_is_gapped (hr.mono (by first | decide | omega)) (by rfl) (pa_cons (pv 2) (pa_cons pe_int (pa_cons pe_int pa_nil))) (nx _))))))) (pss_one (ps_ret pe_bl)) pss_nil) (pss_cons (ps_if (pt_cmpR (ok_neD (K := K) rfl hr.units) (pe_lc (own := [("_law_one", 3), ("_law_high", 4)]) (by rfl) sc__law_is_right.nd (pik_row (K := K) rfl (pv 0)) (blkOk_by (own := [("_law_one", 3), ("_law_high", 4)]) (N := n__law_is_right) (sc := defScope s__law_is_right) (by decide +kernel)) (fun _ _ _ _ _ => (pgk_row (K := K) (n := 2) rfl rfl (pgs_cons (pg_name (i := 3) sc__law_is_right.nd rfl (Or.inl rfl) (Or.inr rfl)) (pgs_cons (pg_name (i := 4) sc__law_is_right.nd rfl (Or.inl rfl) (Or.inr rfl)) pgs_nil rfl) rfl) rfl rfl)) (fun _ _ _ _ _ => (pts_one (pt_cmpR (ok_neD (K := K) rfl hr.units) (pv 3) (pv 1) (nomark _)))) (fun _ _ _ _ _ => (pv 3))) (pe_lc (own := [("_law_one", 3), ("_law_high", 4)]) (by rfl) sc__law_is_right.nd (pik_row (K := K) rfl (pv 2)) (blkOk_by (own := [("_law_one", 3), ("_law_high", 4)]) (N := n__law_is_right) (sc := defScope s__law_is_right) (by decide +kernel)) (fun _ _ _ _ _ => (pgk_row (K := K) (n := 2) rfl rfl (pgs_cons (pg_name (i := 3) sc__law_is_right.nd rfl (Or.inl rfl) (Or.inr rfl)) (pgs_cons (pg_name (i := 4) sc__law_is_right.nd rfl (Or.inl rfl) (Or.inr rfl)) pgs_nil rfl) rfl) rfl rfl)) (fun _ _ _ _ _ => pts_nil) (fun _ _ _ _ _ => (pv 3))) (nomark _)) (pss_one (ps_ret pe_bl)) pss_nil) (pss_one (ps_ret (pe_cmpR (ok_eqD (K := K) rfl hr.units) (pe_has G_out_gapped (hr.mono (by first | decide | omega)) (by rfl) (pa_cons (pe_lc (own := [("_law_row", 5)]) (by rfl) sc__law_is_right.nd (pik_row (K := K) rfl (pv 0)) (blkOk_by (own := [("_law_row", 5)]) (N := n__law_is_right) (sc := defScope s__law_is_right) (by decide +kernel)) (fun _ _ _ _ _ => (pg_name (i := 5) sc__law_is_right.nd rfl (Or.inl rfl) (Or.inr rfl))) (fun _ _ _ _ _ => pts_nil) (fun _ _ _ _ _ => (pe_callTy (ck_lstU (K := K) rfl) (by rfl) bl.list bb_list (pa_cons (pv 5) pa_nil)))) (pa_cons (pv 1) pa_nil)) (nx _)) (pv 2) (nomark _))))))), body_F (n := 4) ?_ rfl h⟩
  exact (ss_seq (ss_asg (se_call (fun _ => .nil) (sa_cons (se_tupC (sa_cons se_var sa_nil)) (sa_cons se_var sa_nil))) sg_name) (ss_seq (ss_if (st_or (st_test (se_ne se_var (se_tupC (sa_cons (se_call (fun _ => .nil) (sa_cons se_var (sa_cons se_var sa_nil))) sa_nil)))) (st_not (st_truU (se_call (fun _ => .nil) (sa_cons se_var (sa_cons se_int (sa_cons se_int sa_nil))))))) (ss_ret se_bl) ss_next) (ss_seq (ss_if (st_test (se_ne (se_fz (sl_lc (si_row se_var) (sg_row (sgs_cons sg_name (sgs_cons sg_name sgs_nil))) (st_test (se_ne se_var se_var)) se_var (by decide))) (se_fz (sl_lc (si_row se_var) (sg_row (sgs_cons sg_name (sgs_cons sg_name sgs_nil))) st_yes se_var (by decide))))) (ss_ret se_bl) ss_next) (ss_ret (se_eq (se_call (fun _ => .nil) (sa_cons (se_fz (sl_lc (si_row se_var) sg_name st_yes (se_fz (sl_lstC (sa_cons se_var sa_nil))) (by decide))) (sa_cons se_var sa_nil))) se_var)))))
abbrev s_law : Stmt := topS 50
abbrev n_law : List Str := ["_law_script", "_law_highs", "_law_high", "_law_rows_here", "_law_key", "_law_cell", "_law_source_here", "_law_start", "_law_turn", "_law_place"]
theorem sc_law : FnScope n_law ["_law_script"] (defScope s_law) := ⟨rfl, rfl, rfl, by decide +kernel, rfl, by decide +kernel, by decide +kernel⟩
theorem H_law (ht : ∀ ns : List Int, ns.length ≤ 63 → F_law [.list (ns.map .int)] = some (.bool true)) (bl : Bm mg) (nx : NoX CX) (G_out_gapped : Has P w K mg base CX "out_gapped" 6 ["towers", "key"] [] (spF K 2 F_out_gapped)) (G__law_all : Has P w K mg base CX "_law_all" 1 ["_law_utmost"] [] (spF K 1 F__law_all)) (G__law_is_right : Has P w K mg base CX "_law_is_right" 12 ["_law_rows_here", "_law_key"] [] (spF K 2 F__law_is_right)) (G__law_source : Has P w K mg base CX "_law_source" 1 ["_law_cell"] [] (spL K 1 F__law_source)) (G__law_woven : Has P w K mg base CX "_law_woven" 6 ["_law_source_here", "_law_level"] [] (spM K 2 F__law_woven)) (G__law_next : Has P w K mg base CX "_law_next" 1 ["_law_source_here", "_law_many"] [] (spM K 2 F__law_next)) (F : FunD K "law" "law" (defArgs s_law) (defBody s_law) (defScope s_law) [] [] f fd) :
    FnOk P w K mg base CX 13 f fd ["_law_script"] (spLaw K) := by
  refine F.ok sc_law (fun vs H Q E h => by obtain ⟨a, ns, rfl, _⟩ := h; rfl) fun cdv A outer s H vs Q E hr h => ?_
  suffices z : ∃ t, PSs (cxOf CX P w K mg base n_law "law" (defScope s_law) f cdv A outer s H E).nox (defBody s_law) t ∧ t { nx := fun _ H' => Q .non H', rt := Q } (L2.start n_law vs) H by
    obtain ⟨t, h1, h2⟩ := z
    exact ⟨t, h1.nox, h2⟩
  refine ⟨_, (pss_cons (ps_if (pt_cmpR (ok_neD (K := K) rfl hr.units) (pe_has G_out_gapped (hr.mono (by first | decide | omega)) (by rfl) (pa_cons (pe_tup (pa_cons (pe_tup (pa_cons pe_int (pa_cons pe_int pa_nil))) pa_nil)) (pa_cons pe_int pa_nil)) (nx _)) (pe_tup pa_nil) (nomark _)) (pss_one (ps_ret pe_bl)) pss_nil) (pss_cons (ps_for PassesOwn.never rfl (pik_row (K := K) rfl (pe_has G__law_all (hr.mono (by first | decide | omega)) (by rfl) (pa_cons pe_int pa_nil) (nx _))) (pg_name (i := 1) sc_law.nd rfl (by first | exact .inl rfl | exact .inr rfl)) (pss_cons (ps_setLc (i := 3) (own := [("_law_place", 9), ("_law_high", 2)]) (by rfl) sc_law.nd rfl rfl (sw_true rfl rfl rfl (by decide +kernel)) (pi_enumR (by rfl) bl.enumerate (pa_cons (pv 1) pa_nil)) (blkOk_by (own := [("_law_place", 9), ("_law_high", 2)]) (N := n_law) (sc := defScope s_law) (by decide +kernel)) (fun _ _ _ _ _ => (pgk_row (K := K) (n := 2) rfl rfl (pgs_cons (pg_name (i := 9) sc_law.nd rfl (Or.inl rfl) (Or.inr rfl)) (pgs_cons (pg_name (i := 2) sc_law.nd rfl (Or.inl rfl) (Or.inr rfl)) pgs_nil rfl) rfl) rfl rfl)) (fun _ _ _ _ _ => pts_nil) (fun _ _ _ _ _ => (pe_tup (pa_cons (pe_op op_sub (pe_op (ok_mulU (K := K) rfl) pe_int (pv 9)) pe_int) (pa_cons (pv 2) pa_nil))))) (pss_one (ps_for PassesOwn.never rfl (pik_row (K := K) rfl (pv 3)) (pgk_row (K := K) (n := 2) rfl rfl (pgs_cons (pg_name (i := 4) sc_law.nd rfl (by first | exact .inl rfl | exact .inr rfl)) (pgs_cons (pg_name (i := 2) sc_law.nd rfl (by first | exact .inl rfl | exact .inr rfl)) pgs_nil))) (pss_one (ps_if (pt_not (ptk_truU (K := K) rfl (pe_has G__law_is_right (hr.mono (by first | decide | omega)) (by rfl) (pa_cons (pv 3) (pa_cons (pv 4) pa_nil)) (nx _)))) (pss_one (ps_ret pe_bl)) pss_nil)))))) (pss_cons (ps_for PassesOwn.never rfl (pik_row (K := K) rfl (pe_slice (slk_sliceU (K := K) rfl) (pe_op (ok_addU (K := K) rfl) (pv 0) (pe_lst (pa_cons pe_int pa_nil))) po_none (po_some pe_int))) (pg_name (i := 5) sc_law.nd rfl (by first | exact .inl rfl | exact .inr rfl)) (pss_cons (ps_set (i := 6) sc_law.nd rfl (by first | exact .inl rfl | exact .inr rfl) (pe_has G__law_source (hr.mono (by first | decide | omega)) (by rfl) (pa_cons (pv 5) pa_nil) (nx _))) (pss_cons (ps_set (i := 1) sc_law.nd rfl (by first | exact .inl rfl | exact .inr rfl) (pe_has G__law_woven (hr.mono (by first | decide | omega)) (by rfl) (pa_cons (pv 6) (pa_cons (pe_op (ok_addU (K := K) rfl) pe_int (pe_has G__law_next (hr.mono (by first | decide | omega)) (by rfl) (pa_cons (pv 6) (pa_cons pe_int pa_nil)) (nx _))) pa_nil)) (nx _))) (pss_cons (ps_set (i := 7) sc_law.nd rfl (by first | exact .inl rfl | exact .inr rfl) (pe_op op_sub (pe_has G__law_next (hr.mono (by first | decide | omega)) (by rfl) (pa_cons (pv 6) (pa_cons (pe_op op_pow pe_int pe_int) pa_nil)) (nx _)) (pe_op op_pow pe_int pe_int))) (pss_cons (ps_setLc (i := 3) (own := [("_law_place", 9), ("_law_high", 2)]) (by rfl) sc_law.nd rfl rfl (sw_true rfl rfl rfl (by decide +kernel)) (pi_enumR (by rfl) bl.enumerate (pa_cons (pv 1) pa_nil)) (blkOk_by (own := [("_law_place", 9), ("_law_high", 2)]) (N := n_law) (sc := defScope s_law) (by decide +kernel)) (fun _ _ _ _ _ => (pgk_row (K := K) (n := 2) rfl rfl (pgs_cons (pg_name (i := 9) sc_law.nd rfl (Or.inl rfl) (Or.inr rfl)) (pgs_cons (pg_name (i := 2) sc_law.nd rfl (Or.inl rfl) (Or.inr rfl)) pgs_nil rfl) rfl) rfl rfl)) (fun _ _ _ _ _ => pts_nil) (fun _ _ _ _ _ => (pe_tup (pa_cons (pe_op (ok_addU (K := K) rfl) (pv 7) (pe_op (ok_mulU (K := K) rfl) pe_int (pv 9))) (pa_cons (pv 2) pa_nil))))) (pss_one (ps_for PassesOwn.never rfl (pi_range1 rfl bl.range (pa_cons pe_int pa_nil)) (pg_name (i := 8) sc_law.nd rfl (by first | exact .inl rfl | exact .inr rfl)) (pss_one (ps_if (pt_not (ptk_truU (K := K) rfl (pe_has G__law_is_right (hr.mono (by first | decide | omega)) (by rfl) (pa_cons (pv 3) (pa_cons (pe_op (ok_addU (K := K) rfl) (pv 7) (pe_op (ok_mulU (K := K) rfl) pe_int (pe_has G__law_next (hr.mono (by first | decide | omega)) (by rfl) (pa_cons (pv 6) (pa_cons (pe_callB (ck_lenU (K := K) rfl) (by rfl) bl.len bb_len (pa_cons (pv 3) pa_nil)) pa_nil)) (nx _)))) pa_nil)) (nx _)))) (pss_one (ps_ret pe_bl)) pss_nil))))))))) (pss_one (ps_ret pe_bl))))), body_law (E := E) ?_ rfl ht h⟩
  exact (ss_seq (ss_if (st_test (se_ne (se_call (fun _ => .nil) (sa_cons (se_tup (sa_cons (se_tup (sa_cons se_int (sa_cons se_int sa_nil))) sa_nil)) (sa_cons se_int sa_nil))) (se_tup sa_nil))) (ss_ret se_bl) ss_next) (ss_seq (ss_for (si_row (se_call (fun _ => .nil) (sa_cons se_int sa_nil))) sg_name (ss_seq (ss_asg (se_fz (sl_lc (si_enumR (sa_cons se_var sa_nil)) (sg_row (sgs_cons sg_name (sgs_cons sg_name sgs_nil))) st_yes (se_tup (sa_cons (se_sub (se_mul se_int se_var) se_int) (sa_cons se_var sa_nil))) (by decide))) sg_name) (ss_for (si_row se_var) (sg_row (sgs_cons sg_name (sgs_cons sg_name sgs_nil))) (ss_if (st_not (st_truU (se_call (fun _ => .nil) (sa_cons se_var (sa_cons se_var sa_nil))))) (ss_ret se_bl) ss_next)))) (ss_seq (ss_for (si_row (se_sl (se_add se_var (se_fz (sl_lst (sa_cons se_int sa_nil)))) so_none (so_some se_int))) sg_name (ss_seq (ss_asgO (sl_call (fun _ => .nil) (sa_cons se_var sa_nil))) (ss_seq (ss_asg (se_callM (sa_cons (se_add se_int (se_callM (sa_cons se_int sa_nil))) sa_nil)) sg_name) (ss_seq (ss_asg (se_sub (se_callM (sa_cons (se_pow se_int se_int) sa_nil)) (se_pow se_int se_int)) sg_name) (ss_seq (ss_asg (se_fz (sl_lc (si_enumR (sa_cons se_var sa_nil)) (sg_row (sgs_cons sg_name (sgs_cons sg_name sgs_nil))) st_yes (se_tup (sa_cons (se_add se_var (se_mul se_int se_var)) (sa_cons se_var sa_nil))) (by decide))) sg_name) (ss_for (si_rg1 (sa_cons se_int sa_nil)) sg_name (ss_if (st_not (st_truU (se_call (fun _ => .nil) (sa_cons se_var (sa_cons (se_add se_var (se_mul se_int (se_callM (sa_cons (se_len (sa_cons se_var sa_nil)) sa_nil)))) sa_nil))))) (ss_ret se_bl) ss_next))))))) (ss_ret se_bl))))
end
end Tk
end

section
set_option Elab.async false
set_option linter.all false
set_option maxRecDepth 100000
set_option maxHeartbeats 1000000
/-! k67: gaps that are good, and one pass. -/
namespace Tk
open PySem PySem.Spec PyProof.Rows L2 Evl Tb Fd
/-- every gap of level l is filled, and what is highest stands last -/
inductive Good (l : Int) : List Int → Prop
  | nil : Good l []
  | snoc {A S : List Int} {x : Int} : Good l A → (∀ h ∈ S, h ≤ l) → l ∈ S → l < x → Good l (A ++ S ++ [x])
inductive GoodR (l : Int) : List Int → Prop
  | nil : GoodR l []
  | cons {y : Int} {S Y : List Int} : l < y → (∀ h ∈ S, h ≤ l) → l ∈ S → GoodR l Y → GoodR l (y :: (S ++ Y))
def GoodAll (l : Int) (hs : List Int) : Prop := ∃ A S, hs = A ++ S ∧ Good l A ∧ (∀ h ∈ S, h ≤ l) ∧ l ∈ S
theorem Good.app {l : Int} {A B : List Int} (h : Good l A) (g : Good l B) : Good l (A ++ B) := by
  induction g with
  | nil => rw [List.append_nil]; exact h
  | snoc _ h1 h2 h3 ih =>
    rw [← List.append_assoc, ← List.append_assoc]
    exact .snoc ih h1 h2 h3
theorem GoodAll.close {l x : Int} {F : List Int} (h : GoodAll l F) (hx : l < x) : Good l (F ++ [x]) := by
  obtain ⟨A, S, rfl, h1, h2, h3⟩ := h
  exact .snoc h1 h2 h3 hx
theorem GoodAll.left {l : Int} {X F : List Int} (h : Good l X) (g : GoodAll l F) : GoodAll l (X ++ F) := by
  obtain ⟨A, S, rfl, h1, h2, h3⟩ := g
  exact ⟨X ++ A, S, by rw [List.append_assoc], h.app h1, h2, h3⟩
theorem GoodAll.right {l : Int} {F Y : List Int} (g : GoodAll l F) (h : GoodR l Y) : GoodAll l (F ++ Y) := by
  induction h generalizing F with
  | nil => rw [List.append_nil]; exact g
  | @cons y S Y hy h1 h2 _ ih =>
    have : F ++ y :: (S ++ Y) = ((F ++ [y]) ++ S) ++ Y := by simp
    rw [this]
    exact ih ⟨F ++ [y], S, rfl, g.close hy, h1, h2⟩
theorem front_aux {l : Int} {A : List Int} (h1 : Good l A) : ∀ (x : Int) (S Y : List Int), l < x → (∀ h ∈ S, h ≤ l) → l ∈ S → GoodR l Y → GoodR l (x :: (A ++ S ++ Y)) := by
  induction h1 with
  | nil => exact fun x S Y hx h2 h3 h => .cons hx h2 h3 h
  | @snoc A T z _ g1 g2 g3 ih =>
    intro x S Y hx h2 h3 h
    have e : x :: (A ++ T ++ [z] ++ S ++ Y) = x :: (A ++ T ++ (z :: (S ++ Y))) := by simp
    rw [e]
    exact ih x T _ hx g1 g2 (.cons g3 h2 h3 h)
theorem GoodR.front {l x : Int} {F Y : List Int} (hx : l < x) (g : GoodAll l F) (h : GoodR l Y) : GoodR l (x :: (F ++ Y)) := by
  obtain ⟨A, S, rfl, h1, h2, h3⟩ := g
  exact front_aux h1 x S Y hx h2 h3 h
theorem GoodR.head {l : Int} {Y : List Int} (h : GoodR l Y) : Y = [] ∨ ∃ y Y', Y = y :: Y' ∧ l < y := by
  cases h with
  | nil => exact .inl rfl
  | cons h1 _ _ _ => exact .inr ⟨_, _, rfl, h1⟩
/-- the first place of l is raised, where there are more -/
def raise1 (l : Int) : List Int → List Int
  | [] => []
  | h :: hs => if h = l then (l + 1) :: hs else h :: raise1 l hs
def bF (l : Int) (S : List Int) : List Int := if 1 < (S.filter (· = l)).length then raise1 l S else S
def bL (l : Int) (S : List Int) : List Int := if 1 < (S.filter (· = l)).length then (raise1 l S.reverse).reverse else S
/-- one pass: what it leaves, none if nothing is to be done -/
inductive Fill (l : Int) : List Int → Option (List Int) → Prop
  | stop {hs : List Int} : GoodAll l hs → Fill l hs none
  | root {hs : List Int} : (∀ h ∈ hs, h < l) → Fill l hs none
  | behind {A S T C : List Int} : Good l A → (∀ h ∈ S, h < l) → (∀ h ∈ T, h ≤ l) → l ∈ T → (C = [] ∨ ∃ c C', C = c :: C' ∧ l < c) → Fill l (A ++ S ++ (l + 1) :: (T ++ C)) (some (A ++ S ++ l :: (bF l T ++ C)))
  | ahead {A S T C : List Int} : Good l A → (∀ h ∈ T, h ≤ l) → l ∈ T → (∀ h ∈ S, h < l) → (C = [] ∨ ∃ c C', C = c :: C' ∧ l + 1 < c) → Fill l (A ++ T ++ (l + 1) :: (S ++ C)) (some (A ++ bL l T ++ l :: (S ++ C)))
inductive Lp : Int → List Int → List Int → Prop
  | done {l : Int} {hs : List Int} : Fill l hs none → Lp l hs hs
  | step {l : Int} {hs hs' r : List Int} : Fill l hs (some hs') → Lp (l + 1) hs' r → Lp l hs r
/-! ### what is woven -/
section
variable {α β : Type}
def weave : List (List α) → List α → List α
  | [], ks => ks
  | p :: _, [] => p
  | p :: ps, k :: ks => p ++ k :: weave ps ks
def pre : List (List α) → List α → List α
  | p :: ps, k :: ks => p ++ k :: pre ps ks
  | _, _ => []
def suf : List α → List (List α) → List α
  | k :: ks, p :: ps => k :: (p ++ suf ks ps)
  | _, _ => []
theorem weave_suf : ∀ (K : List α) (P : List (List α)) (p : List α), P.length = K.length → weave (p :: P) K = p ++ suf K P
  | [], [], p, _ => by simp [weave, suf]
  | k :: K, q :: P, p, h => by
    rw [weave, suf, weave_suf K P q (by simpa using h)]
theorem weave_at (p : List α) (P2 : List (List α)) (K2 : List α) : ∀ (P1 : List (List α)) (K1 : List α), P1.length = K1.length → weave (P1 ++ p :: P2) (K1 ++ K2) = pre P1 K1 ++ weave (p :: P2) K2
  | [], [], _ => by simp [pre]
  | q :: P1, k :: K1, h => by
    rw [List.cons_append, List.cons_append, weave, pre, weave_at p P2 K2 P1 K1 (by simpa using h)]
    simp
theorem weave_mid {P1 P2 : List (List α)} {K1 K2 : List α} (p : List α) (h1 : P1.length = K1.length) (h2 : P2.length = K2.length) : weave (P1 ++ p :: P2) (K1 ++ K2) = pre P1 K1 ++ p ++ suf K2 P2 := by
  rw [weave_at p P2 K2 P1 K1 h1, weave_suf K2 P2 p h2, List.append_assoc]
theorem weave_map (f : α → β) : ∀ (P : List (List α)) (K : List α), (weave P K).map f = weave (P.map (List.map f)) (K.map f)
  | [], K => by simp [weave]
  | p :: P, [] => by simp [weave]
  | p :: P, k :: K => by simp [weave, weave_map f P K]
theorem mem_weave {x : α} : ∀ {P : List (List α)} {K : List α}, P.length = K.length + 1 → (x ∈ weave P K ↔ x ∈ K ∨ ∃ p ∈ P, x ∈ p)
  | [p], [], _ => by simp [weave]
  | p :: q :: P, k :: K, h => by
    rw [weave, List.mem_append, List.mem_cons, mem_weave (P := q :: P) (K := K) (by simpa using h)]
    simp only [List.mem_cons, exists_eq_or_imp]
    constructor
    · rintro (h | h | h | h)
      · exact .inr (.inl h)
      · exact .inl (.inl h)
      · exact .inl (.inr h)
      · exact .inr (.inr h)
    · rintro ((h | h) | h | h)
      · exact .inr (.inl h)
      · exact .inr (.inr (.inl h))
      · exact .inl h
      · exact .inr (.inr (.inr h))
theorem split_at {xs : List α} {i : Nat} {x : α} (h : xs[i]? = some x) : xs = xs.take i ++ x :: xs.drop (i + 1) := by
  have hl := (List.getElem?_eq_some_iff.mp h).1
  have hx := (List.getElem?_eq_some_iff.mp h).2
  have e : xs.drop i = x :: xs.drop (i + 1) := by rw [List.drop_eq_getElem_cons hl, hx]
  rw [← e, List.take_append_drop]
end
end Tk
end

section
set_option Elab.async false
set_option linter.all false
set_option maxRecDepth 100000
set_option maxHeartbeats 1000000
/-! k67: trees, and what is taken out of them. -/
namespace Tk
open PySem PySem.Spec PyProof.Rows L2 Evl Tb Fd
def Tr : Nat → Type
  | 0 => Unit
  | n + 1 => List Int × List (Tr n)
def Tr.ks {n : Nat} (t : Tr (n + 1)) : List Int := Prod.fst (α := List Int) (β := List (Tr n)) t
def Tr.ps {n : Nat} (t : Tr (n + 1)) : List (Tr n) := Prod.snd (α := List Int) (β := List (Tr n)) t
def mkT {n : Nat} (ks : List Int) (ps : List (Tr n)) : Tr (n + 1) := ((ks, ps) : List Int × List (Tr n))
@[simp] theorem ks_mk {n : Nat} (ks : List Int) (ps : List (Tr n)) : (mkT ks ps).ks = ks := rfl
@[simp] theorem ps_mk {n : Nat} (ks : List Int) (ps : List (Tr n)) : (mkT ks ps).ps = ps := rfl
theorem mk_eta {n : Nat} (t : Tr (n + 1)) : mkT t.ks t.ps = t := rfl
instance trInh : (n : Nat) → Inhabited (Tr n)
  | 0 => ⟨()⟩
  | n + 1 => ⟨mkT [] []⟩
/-- the rows of a tree -/
def flat : (n : Nat) → Tr n → List (Int × Int)
  | 0, _ => []
  | n + 1, t => weave (t.ps.map (flat n)) (t.ks.map fun k => (k, (n : Int) + 1))
def H : (n : Nat) → Tr n → List Int
  | 0, _ => []
  | n + 1, t => weave (t.ps.map (H n)) (t.ks.map fun _ => (n : Int) + 1)
def keysT : (n : Nat) → Tr n → List Int
  | 0, _ => []
  | n + 1, t => weave (t.ps.map (keysT n)) t.ks
def okN : (n : Nat) → Tr n → Prop
  | 0, _ => True
  | n + 1, t => t.ps.length = t.ks.length + 1 ∧ 1 ≤ t.ks.length ∧ t.ks.length ≤ 3 ∧ ∀ p ∈ t.ps, okN n p
theorem H_flat : ∀ (n : Nat) (t : Tr n), (flat n t).map (·.2) = H n t
  | 0, _ => rfl
  | n + 1, t => by
    rw [flat, H, weave_map, List.map_map, List.map_map]
    congr 1
    apply List.map_congr_left
    intro p _
    exact H_flat n p
theorem keys_flat : ∀ (n : Nat) (t : Tr n), (flat n t).map (·.1) = keysT n t
  | 0, _ => rfl
  | n + 1, t => by
    rw [flat, keysT, weave_map, List.map_map, List.map_map]
    congr 1
    · apply List.map_congr_left
      intro p _
      exact keys_flat n p
    · exact List.map_id' _
theorem H_le : ∀ (n : Nat) (t : Tr n), okN n t → ∀ h ∈ H n t, 1 ≤ h ∧ h ≤ (n : Int)
  | 0, _, _, h, hh => by cases hh
  | n + 1, t, ho, h, hh => by
    rw [H] at hh
    have hlen : (t.ps.map (H n)).length = (t.ks.map fun _ => (n : Int) + 1).length + 1 := by
      rw [List.length_map, List.length_map]
      exact ho.1
    rcases (mem_weave hlen).mp hh with hh | ⟨p, hp, hh⟩
    · obtain ⟨_, _, rfl⟩ := List.mem_map.mp hh
      omega
    · obtain ⟨q, hq, rfl⟩ := List.mem_map.mp hp
      have := H_le n q (ho.2.2.2 q hq) h hh
      omega
/-- the rows of a node, split at one of its parts -/
theorem pre_good {l x : Int} (hx : l < x) : ∀ (P : List (List Int)) (K : List Int), P.length = K.length → (∀ p ∈ P, GoodAll l p) → (∀ k ∈ K, k = x) → Good l (pre P K)
  | [], [], _, _, _ => .nil
  | p :: P, k :: K, h, hp, hk => by
    rw [pre]
    have e : p ++ k :: pre P K = (p ++ [k]) ++ pre P K := by simp
    rw [e]
    have := hk k List.mem_cons_self
    subst this
    exact ((hp p List.mem_cons_self).close hx).app (pre_good hx P K (by simpa using h) (fun q hq => hp q (List.mem_cons_of_mem _ hq)) fun q hq => hk q (List.mem_cons_of_mem _ hq))
theorem suf_good {l x : Int} (hx : l < x) : ∀ (K : List Int) (P : List (List Int)) (Y : List Int), P.length = K.length → (∀ p ∈ P, GoodAll l p) → (∀ k ∈ K, k = x) → GoodR l Y → GoodR l (suf K P ++ Y)
  | [], [], Y, _, _, _, h => by simpa [suf] using h
  | k :: K, p :: P, Y, h, hp, hk, g => by
    have := hk k List.mem_cons_self
    subst this
    have e : suf (k :: K) (p :: P) ++ Y = k :: (p ++ (suf K P ++ Y)) := by simp [suf]
    rw [e]
    exact GoodR.front hx (hp p List.mem_cons_self) (suf_good hx K P Y (by simpa using h) (fun q hq => hp q (List.mem_cons_of_mem _ hq)) (fun q hq => hk q (List.mem_cons_of_mem _ hq)) g)
/-- a woven row at its own level -/
theorem own_good {l : Int} (P : List (List Int)) (K : List Int) (h : P.length = K.length + 1) (hp : ∀ p ∈ P, ∀ z ∈ p, z < l) (hk : ∀ k ∈ K, k = l) (h0 : K ≠ []) : GoodAll l (weave P K) := by
  refine ⟨[], weave P K, rfl, .nil, fun z hz => ?_, ?_⟩
  · rcases (mem_weave h).mp hz with hz | ⟨p, hp', hz⟩
    · exact Int.le_of_eq (hk z hz)
    · exact Int.le_of_lt (hp p hp' z hz)
  · cases K with
    | nil => exact absurd rfl h0
    | cons k K => exact (mem_weave h).mpr (.inl (by rw [← hk k List.mem_cons_self]; exact List.mem_cons_self))
theorem weave_good {l x : Int} (hx : l < x) : ∀ (P : List (List Int)) (K : List Int), P.length = K.length + 1 → (∀ p ∈ P, GoodAll l p) → (∀ k ∈ K, k = x) → GoodAll l (weave P K)
  | [p], [], _, hp, _ => hp p List.mem_cons_self
  | p :: q :: P, k :: K, h, hp, hk => by
    rw [weave]
    have := hk k List.mem_cons_self
    subst this
    have e : p ++ k :: weave (q :: P) K = (p ++ [k]) ++ weave (q :: P) K := by simp
    rw [e]
    exact GoodAll.left ((hp p List.mem_cons_self).close hx) (weave_good hx (q :: P) K (by simpa using h) (fun z hz => hp z (List.mem_cons_of_mem _ hz)) fun z hz => hk z (List.mem_cons_of_mem _ hz))
/-- a tree that is as it must be has no empty gap -/
theorem ok_good : ∀ (n : Nat) (t : Tr n), okN n t → ∀ l : Int, 1 ≤ l → l ≤ (n : Int) → GoodAll l (H n t)
  | 0, _, _, l, h1, h2 => by exfalso; have : l ≤ 0 := h2; omega
  | n + 1, t, ho, l, h1, h2 => by
    have hlen : (t.ps.map (H n)).length = (t.ks.map fun _ => (n : Int) + 1).length + 1 := by
      rw [List.length_map, List.length_map]
      exact ho.1
    have hk : ∀ k ∈ t.ks.map (fun _ => (n : Int) + 1), k = (n : Int) + 1 := fun k hk => by
      obtain ⟨_, _, rfl⟩ := List.mem_map.mp hk
      rfl
    rw [H]
    by_cases c : l = (n : Int) + 1
    · subst c
      refine own_good _ _ hlen (fun p hp z hz => ?_) hk fun z => ?_
      · obtain ⟨q, hq, rfl⟩ := List.mem_map.mp hp
        have := H_le n q (ho.2.2.2 q hq) z hz
        omega
      · have e := congrArg List.length z
        rw [List.length_map] at e
        have := ho.2.1
        rw [show ([] : List Int).length = 0 from rfl] at e
        omega
    · refine weave_good (x := (n : Int) + 1) (by omega) _ _ hlen (fun p hp => ?_) hk
      obtain ⟨q, hq, rfl⟩ := List.mem_map.mp hp
      exact ok_good n q (ho.2.2.2 q hq) l h1 (by omega)
end Tk
end

section
set_option Elab.async false
set_option linter.all false
set_option maxRecDepth 100000
set_option maxHeartbeats 1000000
/-! k67: taking a key out of a tree. -/
namespace Tk
open PySem PySem.Spec PyProof.Rows L2 Evl Tb Fd
def cnt (ks : List Int) (key : Int) : Nat := (ks.filter fun k => decide (k < key)).length
def lastK : (n : Nat) → Tr (n + 1) → Int
  | 0, t => t.ks.getLastD 0
  | n + 1, t => lastK n (t.ps.getLastD default)
def fixB {n : Nat} (ks : List Int) (ps : List (Tr (n + 1))) (i : Nat) : Tr (n + 2) :=
  if 1 < (ps.getD (i + 1) default).ks.length then
    mkT (ks.take i ++ (ps.getD (i + 1) default).ks.take 1 ++ ks.drop (i + 1))
      (ps.take i ++ [mkT ((ks.take (i + 1)).drop i) ((ps.getD i default).ps ++ (ps.getD (i + 1) default).ps.take 1), mkT ((ps.getD (i + 1) default).ks.drop 1) ((ps.getD (i + 1) default).ps.drop 1)] ++ ps.drop (i + 2))
  else mkT (ks.take i ++ ks.drop (i + 1)) (ps.take i ++ [mkT ((ks.take (i + 1)).drop i ++ (ps.getD (i + 1) default).ks) ((ps.getD i default).ps ++ (ps.getD (i + 1) default).ps)] ++ ps.drop (i + 2))
def fixA {n : Nat} (ks : List Int) (ps : List (Tr (n + 1))) (i : Nat) : Tr (n + 2) :=
  if 1 < (ps.getD (i - 1) default).ks.length then
    mkT (ks.take (i - 1) ++ (ps.getD (i - 1) default).ks.drop ((ps.getD (i - 1) default).ks.length - 1))
      (ps.take (i - 1) ++ [mkT ((ps.getD (i - 1) default).ks.take ((ps.getD (i - 1) default).ks.length - 1)) ((ps.getD (i - 1) default).ps.take ((ps.getD (i - 1) default).ps.length - 1)),
        mkT (ks.drop (i - 1)) ((ps.getD (i - 1) default).ps.drop ((ps.getD (i - 1) default).ps.length - 1) ++ (ps.getD i default).ps)])
  else mkT (ks.take (i - 1)) (ps.take (i - 1) ++ [mkT ((ps.getD (i - 1) default).ks ++ ks.drop (i - 1)) ((ps.getD (i - 1) default).ps ++ (ps.getD i default).ps)])
def kyOf {n : Nat} (t : Tr (n + 2)) (key : Int) : Int := if key ∈ t.ks then lastK n (t.ps.getD (cnt t.ks key) default) else key
def ksOf {n : Nat} (t : Tr (n + 2)) (key : Int) : List Int := if key ∈ t.ks then t.ks.take (cnt t.ks key) ++ lastK n (t.ps.getD (cnt t.ks key) default) :: t.ks.drop (cnt t.ks key + 1) else t.ks
def tk : (n : Nat) → Tr (n + 1) → Int → Tr (n + 1)
  | 0, t, key => mkT (t.ks.filter fun k => decide (k ≠ key)) (t.ps.drop 1)
  | n + 1, t, key =>
    let c' := tk n (t.ps.getD (cnt t.ks key) default) (kyOf t key)
    let ps := t.ps.take (cnt t.ks key) ++ c' :: t.ps.drop (cnt t.ks key + 1)
    if c'.ks ≠ [] then mkT (ksOf t key) ps else if cnt t.ks key < (ksOf t key).length then fixB (ksOf t key) ps (cnt t.ks key) else fixA (ksOf t key) ps (cnt t.ks key)
/-- the heights where the key is gone, and no gap is filled yet -/
def Rm : (n : Nat) → Tr (n + 1) → Int → List Int
  | 0, t, key => (t.ks.filter fun k => decide (k ≠ key)).map fun _ => 1
  | n + 1, t, key => weave (t.ps.take (cnt t.ks key) |>.map (H (n + 1)) |> fun P => P ++ Rm n (t.ps.getD (cnt t.ks key) default) (kyOf t key) :: (t.ps.drop (cnt t.ks key + 1)).map (H (n + 1))) (t.ks.map fun _ => (n : Int) + 2)
abbrev srt (xs : List Int) : Prop := xs.Pairwise (· < ·)
theorem cnt_split {K1 K2 : List Int} {key : Int} (h1 : ∀ k ∈ K1, k < key) (h2 : ∀ k ∈ K2, ¬ k < key) : cnt (K1 ++ K2) key = K1.length := by
  unfold cnt
  rw [List.filter_append, List.filter_eq_self.mpr fun k hk => decide_eq_true (h1 k hk), List.filter_eq_nil_iff.mpr fun k hk => by simpa using h2 k hk, List.append_nil]
theorem filt_ne {K1 K2 : List Int} {key : Int} (h : srt (K1 ++ key :: K2)) : (K1 ++ key :: K2).filter (fun k => decide (k ≠ key)) = K1 ++ K2 := by
  obtain ⟨_, h2, h3⟩ := List.pairwise_append.mp h
  have h4 := (List.pairwise_cons.mp h2).1
  rw [List.filter_append, List.filter_cons, if_neg (by simp), List.filter_eq_self.mpr fun k hk => ?_, List.filter_eq_self.mpr fun k hk => ?_]
  · have := h4 k hk
    exact decide_eq_true (by omega)
  · have := h3 k hk key List.mem_cons_self
    exact decide_eq_true (by omega)
theorem leaf_weave {α : Type} : ∀ (ks : List α) (ps : List (List α)), ps.length = ks.length + 1 → (∀ p ∈ ps, p = []) → weave ps ks = ks
  | [], [p], _, h => by rw [weave]; exact h p List.mem_cons_self
  | k :: ks, p :: q :: ps, hl, h => by
    rw [weave, h p List.mem_cons_self, leaf_weave ks (q :: ps) (by simpa using hl) fun z hz => h z (List.mem_cons_of_mem _ hz)]
    rfl
theorem keys1 {t : Tr 1} (h : t.ps.length = t.ks.length + 1) : keysT 1 t = t.ks := leaf_weave _ _ (by rw [List.length_map]; exact h) fun p hp => by
  obtain ⟨q, _, rfl⟩ := List.mem_map.mp hp
  rfl
theorem H1 {t : Tr 1} (h : t.ps.length = t.ks.length + 1) : H 1 t = t.ks.map fun _ => 1 := leaf_weave _ _ (by rw [List.length_map, List.length_map]; exact h) fun p hp => by
  obtain ⟨q, _, rfl⟩ := List.mem_map.mp hp
  rfl
theorem pre_mem {K : List Int} : ∀ {P : List (List Int)}, P.length = K.length → ∀ k ∈ K, k ∈ pre P K := by
  induction K with
  | nil => intro P _ k hk; cases hk
  | cons x K ih =>
    intro P h k hk
    cases P with
    | nil => cases h
    | cons p P =>
      rw [pre, List.mem_append, List.mem_cons]
      rcases List.mem_cons.mp hk with rfl | hk
      · exact .inr (.inl rfl)
      · exact .inr (.inr (ih (by simpa using h) k hk))
theorem suf_mem {K : List Int} : ∀ {P : List (List Int)}, P.length = K.length → ∀ k ∈ K, k ∈ suf K P := by
  induction K with
  | nil => intro P _ k hk; cases hk
  | cons x K ih =>
    intro P h k hk
    cases P with
    | nil => cases h
    | cons p P =>
      rw [suf, List.mem_cons, List.mem_append]
      rcases List.mem_cons.mp hk with rfl | hk
      · exact .inl rfl
      · exact .inr (.inr (ih (by simpa using h) k hk))
/-- where a key is -/
structure At2 {n : Nat} (t : Tr (n + 2)) (key : Int) (K1 K2 : List Int) (P1 : List (Tr (n + 1))) (c : Tr (n + 1)) (P2 : List (Tr (n + 1))) : Prop where
  ks : t.ks = K1 ++ K2
  ps : t.ps = P1 ++ c :: P2
  l1 : P1.length = K1.length
  l2 : P2.length = K2.length
  at_ : cnt t.ks key = K1.length
  keys : keysT (n + 2) t = pre (P1.map (keysT (n + 1))) K1 ++ keysT (n + 1) c ++ suf K2 (P2.map (keysT (n + 1)))
  here : (key ∈ t.ks ∧ ∃ K3, K2 = key :: K3) ∨ (key ∉ t.ks ∧ key ∈ keysT (n + 1) c)
theorem at2 {n : Nat} {t : Tr (n + 2)} {key : Int} (ho : okN (n + 2) t) (hs : srt (keysT (n + 2) t)) (hk : key ∈ keysT (n + 2) t) : ∃ K1 K2 P1 c P2, At2 t key K1 K2 P1 c P2 := by
  have hlen : (t.ps.map (keysT (n + 1))).length = t.ks.length + 1 := by rw [List.length_map]; exact ho.1
  have cut : ∀ (i : Nat) (c : Tr (n + 1)), t.ps[i]? = some c → i ≤ t.ks.length ∧ t.ks = t.ks.take i ++ t.ks.drop i ∧ t.ps = t.ps.take i ++ c :: t.ps.drop (i + 1) ∧ (t.ps.take i).length = (t.ks.take i).length ∧ (t.ps.drop (i + 1)).length = (t.ks.drop i).length ∧
      keysT (n + 2) t = pre ((t.ps.take i).map (keysT (n + 1))) (t.ks.take i) ++ keysT (n + 1) c ++ suf (t.ks.drop i) ((t.ps.drop (i + 1)).map (keysT (n + 1))) := fun i c hc => by
    have hi := (List.getElem?_eq_some_iff.mp hc).1
    have h1 := ho.1
    have a1 : (t.ps.take i).length = (t.ks.take i).length := by rw [List.length_take, List.length_take]; omega
    have a2 : (t.ps.drop (i + 1)).length = (t.ks.drop i).length := by rw [List.length_drop, List.length_drop]; omega
    refine ⟨by omega, (List.take_append_drop i t.ks).symm, split_at hc, a1, a2, ?_⟩
    have e : keysT (n + 2) t = weave (t.ps.map (keysT (n + 1))) t.ks := rfl
    rw [e]
    conv => lhs; rw [split_at hc, ← List.take_append_drop i t.ks, List.map_append, List.map_cons]
    rw [weave_mid _ (by rw [List.length_map]; simpa using a1) (by rw [List.length_map]; simpa using a2)]
    all_goals simp
  have hk2 : key ∈ weave (t.ps.map (keysT (n + 1))) t.ks := hk
  by_cases hm : key ∈ t.ks
  · obtain ⟨i, hi⟩ := List.getElem?_of_mem hm
    have hil := (List.getElem?_eq_some_iff.mp hi).1
    have hpl : i < t.ps.length := by rw [ho.1]; omega
    obtain ⟨c0, c1, c2, c3, c4, c5⟩ := cut i t.ps[i] (List.getElem?_eq_getElem hpl)
    have hd : t.ks.drop i = key :: t.ks.drop (i + 1) := by rw [List.drop_eq_getElem_cons hil, (List.getElem?_eq_some_iff.mp hi).2]
    have hs2 := hs
    rw [c5] at hs2
    obtain ⟨s1, s2, s3⟩ := List.pairwise_append.mp hs2
    have kin : key ∈ suf (t.ks.drop i) ((t.ps.drop (i + 1)).map (keysT (n + 1))) := suf_mem (by rw [List.length_map]; exact c4) key (by rw [hd]; exact List.mem_cons_self)
    refine ⟨t.ks.take i, t.ks.drop i, t.ps.take i, t.ps[i], t.ps.drop (i + 1), c1, c2, c3, c4, ?_, c5, .inl ⟨hm, _, hd⟩⟩
    conv => lhs; rw [c1]
    refine cnt_split (fun k hk => s3 k (List.mem_append_left _ (pre_mem (by rw [List.length_map]; exact c3) k hk)) key kin) fun k hk => ?_
    rw [hd] at hk
    rcases List.mem_cons.mp hk with rfl | hk
    · omega
    · rw [hd] at s2
      cases hq : (t.ps.drop (i + 1)).map (keysT (n + 1)) with
      | nil =>
        have := congrArg List.length hq
        rw [List.length_map, c4, hd] at this
        cases this
      | cons q Q =>
        rw [hq, suf] at s2
        have a3 := (List.pairwise_cons.mp s2).1
        have lq : Q.length = (t.ks.drop (i + 1)).length := by
          have := congrArg List.length hq
          rw [List.length_map, c4, hd] at this
          simpa using this.symm
        have := a3 k (List.mem_append_right _ (suf_mem lq k hk))
        omega
  · rcases (mem_weave hlen).mp hk2 with hk2 | ⟨p, hp, hk2⟩
    · exact absurd hk2 hm
    · obtain ⟨c, hc, rfl⟩ := List.mem_map.mp hp
      obtain ⟨i, hi⟩ := List.getElem?_of_mem hc
      obtain ⟨c0, c1, c2, c3, c4, c5⟩ := cut i c hi
      have hs2 := hs
      rw [c5] at hs2
      obtain ⟨s1, s2, s3⟩ := List.pairwise_append.mp hs2
      obtain ⟨s4, s5, s6⟩ := List.pairwise_append.mp s1
      refine ⟨t.ks.take i, t.ks.drop i, t.ps.take i, c, t.ps.drop (i + 1), c1, c2, c3, c4, ?_, c5, .inr ⟨hm, hk2⟩⟩
      conv => lhs; rw [c1]
      refine cnt_split (fun k hk => s6 k (pre_mem (by rw [List.length_map]; exact c3) k hk) key hk2) fun k hk => ?_
      have := s3 key (List.mem_append_right _ hk2) k (suf_mem (by rw [List.length_map]; exact c4) k hk)
      omega
end Tk
end

section
set_option Elab.async false
set_option linter.all false
set_option maxRecDepth 100000
set_option maxHeartbeats 1000000
/-! k67: the passes fill the gaps as the tree does. -/
namespace Tk
open PySem PySem.Spec PyProof.Rows L2 Evl Tb Fd
section
variable {α : Type}
theorem getD0 (P Q : List α) (e d : α) : (P ++ e :: Q).getD P.length d = e := by simp
theorem getD1 (P Q : List α) (e q d : α) : (P ++ e :: q :: Q).getD (P.length + 1) d = q := by
  rw [List.getD_eq_getElem?_getD, List.getElem?_append_right (by omega)]
  simp
theorem take0 (P Q : List α) : (P ++ Q).take P.length = P := List.take_left
theorem drop1 (P Q : List α) (e : α) : (P ++ e :: Q).drop (P.length + 1) = Q := by
  rw [List.drop_append, List.drop_eq_nil_of_le (by omega)]
  simp
theorem drop2 (P Q : List α) (e q : α) : (P ++ e :: q :: Q).drop (P.length + 2) = Q := by
  rw [List.drop_append, List.drop_eq_nil_of_le (by omega)]
  simp
theorem mid1 (P Q : List α) (e : α) : ((P ++ e :: Q).take (P.length + 1)).drop P.length = [e] := by
  rw [List.take_append, List.drop_append, List.drop_eq_nil_of_le (by rw [List.length_take]; omega)]
  simp
end
theorem fixB_at {n : Nat} {K1 K3 : List Int} {k : Int} {P1 P3 : List (Tr (n + 1))} {e q : Tr (n + 1)} (h : P1.length = K1.length) :
    fixB (K1 ++ k :: K3) (P1 ++ e :: q :: P3) K1.length = if 1 < q.ks.length then mkT (K1 ++ q.ks.take 1 ++ K3) (P1 ++ [mkT [k] (e.ps ++ q.ps.take 1), mkT (q.ks.drop 1) (q.ps.drop 1)] ++ P3)
      else mkT (K1 ++ K3) (P1 ++ [mkT (k :: q.ks) (e.ps ++ q.ps)] ++ P3) := by
  unfold fixB
  rw [take0, drop1, mid1, ← h, getD0, getD1, take0, drop2]
  rfl
theorem fixA_at {n : Nat} {K1 : List Int} {k : Int} {P1 : List (Tr (n + 1))} {e q : Tr (n + 1)} (h : P1.length = K1.length) :
    fixA (K1 ++ [k]) (P1 ++ [q, e]) (K1.length + 1) = if 1 < q.ks.length then mkT (K1 ++ q.ks.drop (q.ks.length - 1)) (P1 ++ [mkT (q.ks.take (q.ks.length - 1)) (q.ps.take (q.ps.length - 1)), mkT [k] (q.ps.drop (q.ps.length - 1) ++ e.ps)])
      else mkT K1 (P1 ++ [mkT (q.ks ++ [k]) (q.ps ++ e.ps)]) := by
  unfold fixA
  rw [Nat.add_sub_cancel, take0, List.drop_left, ← h, getD0, getD1, take0]
/-! ### a node at its own level -/
theorem raise_skip {l : Int} : ∀ (S T : List Int), (∀ h ∈ S, h < l) → raise1 l (S ++ l :: T) = S ++ (l + 1) :: T
  | [], T, _ => by simp [raise1]
  | h :: S, T, hh => by
    have h1 := hh h List.mem_cons_self
    rw [List.cons_append, raise1, if_neg (by omega), raise_skip S T fun z hz => hh z (List.mem_cons_of_mem _ hz)]
    rfl
theorem filt_low {l : Int} {p : List Int} (h : ∀ z ∈ p, z < l) : p.filter (fun z => decide (z = l)) = [] :=
  List.filter_eq_nil_iff.mpr fun z hz => by have := h z hz; simp; omega
theorem filt_weave {l : Int} : ∀ (P : List (List Int)) (K : List Int), P.length = K.length + 1 → (∀ p ∈ P, ∀ z ∈ p, z < l) → (∀ k ∈ K, k = l) → ((weave P K).filter fun z => decide (z = l)).length = K.length
  | [p], [], _, hp, _ => by rw [weave, filt_low (hp p List.mem_cons_self)]
  | p :: q :: P, k :: K, h, hp, hk => by
    have e := hk k List.mem_cons_self
    rw [weave, List.filter_append, filt_low (hp p List.mem_cons_self), List.nil_append, List.filter_cons, if_pos (decide_eq_true e), List.length_cons, filt_weave (q :: P) K (by simpa using h) (fun z hz => hp z (List.mem_cons_of_mem _ hz)) fun z hz => hk z (List.mem_cons_of_mem _ hz)]
    rfl
theorem bF_weave {l : Int} {P : List (List Int)} {K : List Int} (h : P.length = K.length + 1) (hp : ∀ p ∈ P, ∀ z ∈ p, z < l) (hk : ∀ k ∈ K, k = l) :
    bF l (weave P K) = match P, K with
      | p :: q :: P', _ :: k :: K' => p ++ (l + 1) :: weave (q :: P') (k :: K')
      | P, K => weave P K := by
  unfold bF
  rw [filt_weave P K h hp hk]
  match P, K, h, hp, hk with
  | [p], [], _, _, _ => rfl
  | [p, q], [k], _, _, _ => rfl
  | p :: q :: r :: P', k1 :: k2 :: K', h, hp, hk =>
    have e := hk k1 List.mem_cons_self
    subst e
    rw [if_pos (by simp), weave, raise_skip _ _ (hp p List.mem_cons_self)]
theorem weave_snoc {α : Type} : ∀ (P : List (List α)) (K : List α) (k : α) (p : List α), P.length = K.length + 1 → weave (P ++ [p]) (K ++ [k]) = weave P K ++ k :: p
  | [q], [], k, p, _ => by simp [weave]
  | q :: r :: P, x :: K, k, p, h => by
    show q ++ x :: weave ((r :: P) ++ [p]) (K ++ [k]) = (q ++ x :: weave (r :: P) K) ++ k :: p
    rw [weave_snoc (r :: P) K k p (by simpa using h)]
    simp
theorem bL_one {l : Int} {P : List (List Int)} {K : List Int} (h : P.length = K.length + 1) (hp : ∀ p ∈ P, ∀ z ∈ p, z < l) (hk : ∀ k ∈ K, k = l) (h1 : ¬ 1 < K.length) : bL l (weave P K) = weave P K := by
  unfold bL
  rw [filt_weave P K h hp hk, if_neg h1]
theorem bL_more {l : Int} {P : List (List Int)} {K : List Int} {p : List Int} (h : P.length = K.length + 1) (hp : ∀ p ∈ P, ∀ z ∈ p, z < l) (hpp : ∀ z ∈ p, z < l) (hk : ∀ k ∈ K, k = l) (h1 : 0 < K.length) :
    bL l (weave (P ++ [p]) (K ++ [l])) = weave P K ++ (l + 1) :: p := by
  unfold bL
  rw [filt_weave (P ++ [p]) (K ++ [l]) (by rw [List.length_append, List.length_append, h]; rfl) (fun q hq => by
    rcases List.mem_append.mp hq with hq | hq
    · exact hp q hq
    · rw [List.mem_singleton.mp hq]; exact hpp) fun k hk' => by
    rcases List.mem_append.mp hk' with hk' | hk'
    · exact hk k hk'
    · exact List.mem_singleton.mp hk', if_pos (by rw [List.length_append]; show 1 < K.length + 1; omega), weave_snoc P K l p h]
  rw [List.reverse_append, List.reverse_cons, List.append_assoc]
  show (raise1 l (p.reverse ++ (l :: (weave P K).reverse))).reverse = _
  rw [raise_skip _ _ fun z hz => hpp z (List.mem_reverse.mp hz)]
  simp
end Tk
end

section
set_option Elab.async false
set_option linter.all false
set_option maxRecDepth 100000
set_option maxHeartbeats 1000000
/-! k67: all passes together. -/
namespace Tk
open PySem PySem.Spec PyProof.Rows L2 Evl Tb Fd
theorem last_flat : ∀ (n : Nat) (t : Tr (n + 1)), okN (n + 1) t → ∃ U, flat (n + 1) t = U ++ [(lastK n t, 1)]
  | 0, t, ho => by
    have hf : flat 1 t = t.ks.map fun k => (k, (0 : Int) + 1) := leaf_weave _ _ (by rw [List.length_map, List.length_map]; exact ho.1) fun p hp => by
      obtain ⟨q, _, rfl⟩ := List.mem_map.mp hp
      rfl
    have hne : t.ks ≠ [] := fun z => by
      have := ho.2.1
      rw [z] at this
      cases this
    have e := List.dropLast_concat_getLast hne
    have el : lastK 0 t = t.ks.getLast hne := by
      show t.ks.getLastD 0 = _
      rw [List.getLastD_eq_getLast?, List.getLast?_eq_some_getLast hne]
      rfl
    refine ⟨t.ks.dropLast.map fun k => (k, (0 : Int) + 1), ?_⟩
    rw [hf, el]
    conv => lhs; rw [← e]
    rw [List.map_append]
    rfl
  | n + 1, t, ho => by
    have hne : t.ps ≠ [] := fun z => by
      have := ho.1
      rw [z] at this
      cases this
    have e := List.dropLast_concat_getLast hne
    have el : t.ps.getLastD default = t.ps.getLast hne := by
      rw [List.getLastD_eq_getLast?, List.getLast?_eq_some_getLast hne]
      rfl
    obtain ⟨U, hU⟩ := last_flat n (t.ps.getLast hne) (ho.2.2.2 _ (List.getLast_mem hne))
    have hl : (t.ps.dropLast.map (flat (n + 1))).length = (t.ks.map fun k => (k, ((n + 1 : Nat) : Int) + 1)).length := by
      rw [List.length_map, List.length_map, List.length_dropLast, ho.1]
      omega
    have e2 : flat (n + 2) t = pre (t.ps.dropLast.map (flat (n + 1))) (t.ks.map fun k => (k, ((n + 1 : Nat) : Int) + 1)) ++ flat (n + 1) (t.ps.getLast hne) := by
      have h := weave_mid (P1 := t.ps.dropLast.map (flat (n + 1))) (P2 := []) (K1 := t.ks.map fun k => (k, ((n + 1 : Nat) : Int) + 1)) (K2 := []) (flat (n + 1) (t.ps.getLast hne)) hl rfl
      rw [List.append_nil] at h
      have e3 : flat (n + 2) t = weave (t.ps.map (flat (n + 1))) (t.ks.map fun k => (k, ((n + 1 : Nat) : Int) + 1)) := rfl
      rw [e3]
      conv => lhs; rw [← e, List.map_append]
      show weave (t.ps.dropLast.map (flat (n + 1)) ++ flat (n + 1) (t.ps.getLast hne) :: []) _ = _
      rw [h]
      simp [suf]
    refine ⟨pre (t.ps.dropLast.map (flat (n + 1))) (t.ks.map fun k => (k, ((n + 1 : Nat) : Int) + 1)) ++ U, ?_⟩
    rw [e2, hU, List.append_assoc]
    show _ = _ ++ (U ++ [(lastK n (t.ps.getLastD default), 1)])
    rw [el]
theorem lastK_mem {n : Nat} {t : Tr (n + 1)} (ho : okN (n + 1) t) : lastK n t ∈ keysT (n + 1) t := by
  obtain ⟨U, hU⟩ := last_flat n t ho
  rw [← keys_flat, hU]
  simp
/-- what taking the key out asks of the part where it is -/
structure At3 {n : Nat} (t : Tr (n + 2)) (key : Int) (K1 K2 K2' : List Int) (P1 : List (Tr (n + 1))) (c : Tr (n + 1)) (P2 : List (Tr (n + 1))) : Prop where
  len : K2'.length = K2.length
  kso : ksOf t key = K1 ++ K2'
  tke : tk (n + 1) t key = if (tk n c (kyOf t key)).ks ≠ [] then mkT (K1 ++ K2') (P1 ++ tk n c (kyOf t key) :: P2) else if K1.length < (K1 ++ K2').length then fixB (K1 ++ K2') (P1 ++ tk n c (kyOf t key) :: P2) K1.length else fixA (K1 ++ K2') (P1 ++ tk n c (kyOf t key) :: P2) K1.length
  rme : Rm (n + 1) t key = pre (P1.map (H (n + 1))) (K1.map fun _ => (n : Int) + 2) ++ Rm n c (kyOf t key) ++ suf (K2.map fun _ => (n : Int) + 2) (P2.map (H (n + 1)))
  inn : kyOf t key ∈ keysT (n + 1) c
  kcs : (key ∈ t.ks ∧ kyOf t key = lastK n c ∧ ∃ K3, K2 = key :: K3 ∧ K2' = lastK n c :: K3) ∨ (key ∉ t.ks ∧ kyOf t key = key ∧ K2' = K2)
theorem at3 {n : Nat} {t : Tr (n + 2)} {key : Int} {K1 K2 : List Int} {P1 : List (Tr (n + 1))} {c : Tr (n + 1)} {P2 : List (Tr (n + 1))} (A : At2 t key K1 K2 P1 c P2) (oc : okN (n + 1) c) : ∃ K2', At3 t key K1 K2 K2' P1 c P2 := by
  have g0 : t.ps.getD (cnt t.ks key) default = c := by rw [A.at_, A.ps, ← A.l1, getD0]
  have g1 : t.ps.take (cnt t.ks key) = P1 := by rw [A.at_, A.ps, ← A.l1, take0]
  have g2 : t.ps.drop (cnt t.ks key + 1) = P2 := by rw [A.at_, A.ps, ← A.l1, drop1]
  have g3 : t.ks.take (cnt t.ks key) = K1 := by rw [A.at_]; conv => lhs; rw [A.ks]; rw [take0]
  have rme : Rm (n + 1) t key = pre (P1.map (H (n + 1))) (K1.map fun _ => (n : Int) + 2) ++ Rm n c (kyOf t key) ++ suf (K2.map fun _ => (n : Int) + 2) (P2.map (H (n + 1))) := by
    show weave ((t.ps.take (cnt t.ks key)).map (H (n + 1)) ++ Rm n (t.ps.getD (cnt t.ks key) default) (kyOf t key) :: (t.ps.drop (cnt t.ks key + 1)).map (H (n + 1))) (t.ks.map fun _ => (n : Int) + 2) = _
    rw [g0, g1, g2, A.ks, List.map_append]
    exact weave_mid _ (by rw [List.length_map, List.length_map]; exact A.l1) (by rw [List.length_map, List.length_map]; exact A.l2)
  have tke : tk (n + 1) t key = if (tk n c (kyOf t key)).ks ≠ [] then mkT (ksOf t key) (P1 ++ tk n c (kyOf t key) :: P2) else if K1.length < (ksOf t key).length then fixB (ksOf t key) (P1 ++ tk n c (kyOf t key) :: P2) K1.length else fixA (ksOf t key) (P1 ++ tk n c (kyOf t key) :: P2) K1.length := by
    rw [tk, g0, g1, g2, A.at_]
  rcases A.here with ⟨hm, K3, rfl⟩ | ⟨hm, hin⟩
  · have k0 : kyOf t key = lastK n c := by rw [kyOf, if_pos hm, g0]
    have k1 : ksOf t key = K1 ++ lastK n c :: K3 := by
      rw [ksOf, if_pos hm, g0, g3, A.at_]
      conv => lhs; rw [A.ks]
      rw [drop1]
    exact ⟨lastK n c :: K3, by simp, k1, by rw [k1] at tke; exact tke, rme, by rw [k0]; exact lastK_mem oc, .inl ⟨hm, k0, K3, rfl, rfl⟩⟩
  · have k0 : kyOf t key = key := by rw [kyOf, if_neg hm]
    have k1 : ksOf t key = K1 ++ K2 := by rw [ksOf, if_neg hm, A.ks]
    exact ⟨K2, rfl, k1, by rw [k1] at tke; exact tke, rme, by rw [k0]; exact hin, .inr ⟨hm, k0, rfl⟩⟩
theorem H_mk {n : Nat} (ks : List Int) (ps : List (Tr n)) : H (n + 1) (mkT ks ps) = weave (ps.map (H n)) (ks.map fun _ => (n : Int) + 1) := rfl
theorem map_const {K K' : List Int} (x : Int) (h : K.length = K'.length) : (K.map fun _ => x) = K'.map fun _ => x := by
  rw [List.map_const', List.map_const', h]
theorem H_parts {n : Nat} {K1 K2 : List Int} {P1 P2 : List (Tr (n + 1))} {c : Tr (n + 1)} (h1 : P1.length = K1.length) (h2 : P2.length = K2.length) :
    H (n + 2) (mkT (K1 ++ K2) (P1 ++ c :: P2)) = pre (P1.map (H (n + 1))) (K1.map fun _ => (n : Int) + 2) ++ H (n + 1) c ++ suf (K2.map fun _ => (n : Int) + 2) (P2.map (H (n + 1))) := by
  rw [H_mk, List.map_append, List.map_append, List.map_cons]
  have e : ((n + 1 : Nat) : Int) + 1 = (n : Int) + 2 := by omega
  rw [e]
  exact weave_mid _ (by rw [List.length_map, List.length_map]; exact h1) (by rw [List.length_map, List.length_map]; exact h2)
theorem H_low {n : Nat} {t : Tr (n + 1)} (ho : okN (n + 1) t) : (∀ p ∈ t.ps.map (H n), ∀ z ∈ p, z < (n : Int) + 1) ∧ (∀ k ∈ t.ks.map (fun _ => (n : Int) + 1), k = (n : Int) + 1) ∧ (t.ps.map (H n)).length = (t.ks.map fun _ => (n : Int) + 1).length + 1 :=
  ⟨fun p hp z hz => by
    obtain ⟨q, hq, rfl⟩ := List.mem_map.mp hp
    have := H_le n q (ho.2.2.2 q hq) z hz
    omega, fun k hk => by
    obtain ⟨_, _, rfl⟩ := List.mem_map.mp hk
    rfl, by rw [List.length_map, List.length_map]; exact ho.1⟩
theorem bF_parts {n : Nat} : ∀ (ps : List (Tr n)) (ks : List Int), ps.length = ks.length + 1 → (∀ p ∈ ps.map (H n), ∀ z ∈ p, z < (n : Int) + 1) →
    bF ((n : Int) + 1) (weave (ps.map (H n)) (ks.map fun _ => (n : Int) + 1)) = if 1 < ks.length then weave ((ps.take 1).map (H n)) [] ++ ((n : Int) + 2) :: weave ((ps.drop 1).map (H n)) ((ks.drop 1).map fun _ => (n : Int) + 1) else weave (ps.map (H n)) (ks.map fun _ => (n : Int) + 1)
  | [p], [], _, h1 => by
    have e := bF_weave (l := (n : Int) + 1) (P := [H n p]) (K := []) rfl (by simpa using h1) (fun _ h => nomatch h)
    exact e
  | [p, r], [k], _, h1 => by
    have e := bF_weave (l := (n : Int) + 1) (P := [H n p, H n r]) (K := [(n : Int) + 1]) rfl (by simpa using h1) (by simp)
    exact e
  | _ :: _ :: _ :: _, [_], h, _ => absurd h (by simp)
  | p :: r :: ps, k1 :: k2 :: ks, h, h1 => by
    have e := bF_weave (l := (n : Int) + 1) (P := (p :: r :: ps).map (H n)) (K := (k1 :: k2 :: ks).map fun _ => (n : Int) + 1) (by rw [List.length_map, List.length_map]; exact h) h1 (fun k hk => by
      obtain ⟨_, _, rfl⟩ := List.mem_map.mp hk
      rfl)
    rw [e, if_pos (by simp)]
    have e2 : (n : Int) + 1 + 1 = (n : Int) + 2 := by omega
    show H n p ++ ((n : Int) + 1 + 1) :: _ = _
    rw [e2]
    rfl
theorem bF_H {n : Nat} {q : Tr (n + 1)} (ho : okN (n + 1) q) : bF ((n : Int) + 1) (H (n + 1) q) = if 1 < q.ks.length then weave ((q.ps.take 1).map (H n)) [] ++ ((n : Int) + 2) :: H (n + 1) (mkT (q.ks.drop 1) (q.ps.drop 1)) else H (n + 1) q :=
  bF_parts q.ps q.ks ho.1 (H_low ho).1
theorem bL_H {n : Nat} {q : Tr (n + 1)} (ho : okN (n + 1) q) : bL ((n : Int) + 1) (H (n + 1) q) = if 1 < q.ks.length then H (n + 1) (mkT (q.ks.take (q.ks.length - 1)) (q.ps.take (q.ps.length - 1))) ++ ((n : Int) + 2) :: weave ((q.ps.drop (q.ps.length - 1)).map (H n)) [] else H (n + 1) q := by
  obtain ⟨h1, h2, h3⟩ := H_low ho
  by_cases c : 1 < q.ks.length
  · rw [if_pos c, H_mk]
    have hpn : q.ps ≠ [] := fun z => by
      have := ho.1
      rw [z] at this
      cases this
    have hkn : q.ks ≠ [] := fun z => by
      rw [z] at c
      cases c
    have ep := List.dropLast_concat_getLast hpn
    have ek := List.dropLast_concat_getLast hkn
    have d1 : q.ps.drop (q.ps.length - 1) = [q.ps.getLast hpn] := by
      conv => lhs; rw [← ep]
      rw [List.length_append, List.drop_append, List.drop_eq_nil_of_le (by simp)]
      simp
    rw [d1, ← List.dropLast_eq_take, ← List.dropLast_eq_take]
    have e : H (n + 1) q = weave ((q.ps.dropLast.map (H n)) ++ [H n (q.ps.getLast hpn)]) ((q.ks.dropLast.map fun _ => (n : Int) + 1) ++ [(n : Int) + 1]) := by
      show weave (q.ps.map (H n)) (q.ks.map fun _ => (n : Int) + 1) = _
      conv => lhs; rw [← ep, ← ek, List.map_append, List.map_append]
      rfl
    rw [e, bL_more (by rw [List.length_map, List.length_map, List.length_dropLast, List.length_dropLast, ho.1]; omega) (fun p hp => h1 p (by
      obtain ⟨x, hx, rfl⟩ := List.mem_map.mp hp
      exact List.mem_map.mpr ⟨x, List.dropLast_subset _ hx, rfl⟩)) (h1 _ (List.mem_map.mpr ⟨_, List.getLast_mem hpn, rfl⟩)) (fun k hk => by
      obtain ⟨_, _, rfl⟩ := List.mem_map.mp hk
      rfl) (by rw [List.length_map, List.length_dropLast]; omega)]
    have e2 : (n : Int) + 1 + 1 = (n : Int) + 2 := by omega
    rw [e2]
    rfl
  · rw [if_neg c]
    exact bL_one h3 h1 h2 (by rw [List.length_map]; exact c)
end Tk
end

section
set_option Elab.async false
set_option linter.all false
set_option maxRecDepth 100000
set_option maxHeartbeats 1000000
/-! k67: all passes together: the tree, taken by the passes. -/
namespace Tk
open PySem PySem.Spec PyProof.Rows L2 Evl Tb Fd
theorem ok_parts {n : Nat} {K1 K2 : List Int} {P1 P2 : List (Tr (n + 1))} {c : Tr (n + 1)} (ho : okN (n + 2) (mkT (K1 ++ K2) (P1 ++ c :: P2))) {K2' : List Int} (hl : K2'.length = K2.length) {c' : Tr (n + 1)} (hc : okN (n + 1) c') : okN (n + 2) (mkT (K1 ++ K2') (P1 ++ c' :: P2)) := by
  obtain ⟨h1, h2, h3, h4⟩ := ho
  simp only [ks_mk, ps_mk, List.length_append, List.length_cons] at h1 h2 h3
  refine ⟨?_, ?_, ?_, fun p hp => ?_⟩
  · simp only [ks_mk, ps_mk, List.length_append, List.length_cons, hl]
    exact h1
  · simp only [ks_mk, List.length_append, hl]
    exact h2
  · simp only [ks_mk, List.length_append, hl]
    exact h3
  · rcases List.mem_append.mp hp with hp | hp
    · exact h4 p (List.mem_append_left _ hp)
    · rcases List.mem_cons.mp hp with rfl | hp
      · exact hc
      · exact h4 p (List.mem_append_right _ (List.mem_cons_of_mem _ hp))
theorem weave2 {α : Type} (p : List α) (k : α) (P : List (List α)) (K : List α) : weave (p :: P) (k :: K) = p ++ k :: weave P K := rfl
theorem behind67 {n : Nat} {K1 K3 : List Int} {k : Int} {P1 P3 : List (Tr (n + 1))} {e q : Tr (n + 1)} {b : Tr n} (h1 : P1.length = K1.length) (h3 : P3.length = K3.length) (he : e = mkT [] [b]) (ob : okN n b) (oq : okN (n + 1) q) (o1 : ∀ p ∈ P1, okN (n + 1) p) (o3 : ∀ p ∈ P3, okN (n + 1) p) (hl : K1.length + (K3.length + 1) ≤ 3) :
    H (n + 2) (fixB (K1 ++ k :: K3) (P1 ++ e :: q :: P3) K1.length) = pre (P1.map (H (n + 1))) (K1.map fun _ => (n : Int) + 2) ++ (H n b ++ ((n : Int) + 1) :: bF ((n : Int) + 1) (H (n + 1) q)) ++ suf (K3.map fun _ => (n : Int) + 2) (P3.map (H (n + 1))) ∧
    (fixB (K1 ++ k :: K3) (P1 ++ e :: q :: P3) K1.length).ps.length = (fixB (K1 ++ k :: K3) (P1 ++ e :: q :: P3) K1.length).ks.length + 1 ∧ (fixB (K1 ++ k :: K3) (P1 ++ e :: q :: P3) K1.length).ks.length ≤ 3 ∧ ∀ p ∈ (fixB (K1 ++ k :: K3) (P1 ++ e :: q :: P3) K1.length).ps, okN (n + 1) p := by
  subst he
  rw [fixB_at h1, bF_H oq]
  obtain ⟨q1, q2, q3, q4⟩ := oq
  by_cases c : 1 < q.ks.length
  · rw [if_pos c, if_pos c]
    match hk : q.ks, hp : q.ps, c, q1 with
    | o :: ks, r :: ps, c, q1 =>
      have okr : okN n r := q4 r (by rw [hp]; exact List.mem_cons_self)
      have c' : 1 < ks.length + 1 := c
      have q1' : ps.length + 1 = ks.length + 1 + 1 := q1
      rw [hk] at q3
      have q3' : ks.length + 1 ≤ 3 := q3
      have e1 : mkT (K1 ++ (o :: ks).take 1 ++ K3) (P1 ++ [mkT [k] ((mkT [] [b] : Tr (n + 1)).ps ++ (r :: ps).take 1), mkT ((o :: ks).drop 1) ((r :: ps).drop 1)] ++ P3) = mkT (K1 ++ o :: K3) (P1 ++ mkT [k] [b, r] :: mkT ks ps :: P3) := by simp
      rw [e1]
      refine ⟨?_, ?_, ?_, fun p hp' => ?_⟩
      · rw [H_parts h1 (by simp [h3])]
        have e2 : H (n + 1) (mkT [k] [b, r]) = H n b ++ ((n : Int) + 1) :: H n r := rfl
        have e3 : suf ((o :: K3).map fun _ => (n : Int) + 2) ((mkT ks ps :: P3).map (H (n + 1))) = ((n : Int) + 2) :: (H (n + 1) (mkT ks ps) ++ suf (K3.map fun _ => (n : Int) + 2) (P3.map (H (n + 1)))) := rfl
        have e4 : weave (((r :: ps).take 1).map (H n)) [] = H n r := rfl
        rw [e2, e3, e4]
        simp
      · simp [h1, h3]
        omega
      · simp only [ks_mk, List.length_append, List.length_cons]
        omega
      · rcases List.mem_append.mp hp' with hp' | hp'
        · exact o1 p hp'
        · rcases List.mem_cons.mp hp' with rfl | hp'
          · exact ⟨rfl, by simp, by simp, fun x hx => by
              rcases List.mem_cons.mp hx with rfl | hx
              · exact ob
              · rw [List.mem_singleton.mp hx]; exact okr⟩
          · rcases List.mem_cons.mp hp' with rfl | hp'
            · exact ⟨by simp only [ks_mk, ps_mk]; omega, by simp only [ks_mk]; omega, by simp only [ks_mk]; omega, fun x hx => q4 x (by rw [hp]; exact List.mem_cons_of_mem _ hx)⟩
            · exact o3 p hp'
  · rw [if_neg c, if_neg c]
    have e1 : mkT (K1 ++ K3) (P1 ++ [mkT (k :: q.ks) ((mkT [] [b] : Tr (n + 1)).ps ++ q.ps)] ++ P3) = mkT (K1 ++ K3) (P1 ++ mkT (k :: q.ks) (b :: q.ps) :: P3) := by simp
    rw [e1]
    refine ⟨?_, ?_, ?_, fun p hp' => ?_⟩
    · rw [H_parts h1 h3]
      rfl
    · simp [h1, h3]
      omega
    · simp only [ks_mk, List.length_append]
      omega
    · rcases List.mem_append.mp hp' with hp' | hp'
      · exact o1 p hp'
      · rcases List.mem_cons.mp hp' with rfl | hp'
        · exact ⟨by simp [q1], by simp, by simp only [ks_mk, List.length_cons]; omega, fun x hx => by
            rcases List.mem_cons.mp hx with rfl | hx
            · exact ob
            · exact q4 x hx⟩
        · exact o3 p hp'
theorem pre_snoc {α : Type} : ∀ (P : List (List α)) (K : List α) (p : List α) (k : α), P.length = K.length → pre (P ++ [p]) (K ++ [k]) = pre P K ++ p ++ [k]
  | [], [], p, k, _ => by simp [pre]
  | q :: P, x :: K, p, k, h => by
    rw [List.cons_append, List.cons_append, pre, pre_snoc P K p k (by simpa using h), pre]
    simp
theorem ahead67 {n : Nat} {K1 : List Int} {k : Int} {P1 : List (Tr (n + 1))} {e q : Tr (n + 1)} {b : Tr n} (h1 : P1.length = K1.length) (he : e = mkT [] [b]) (ob : okN n b) (oq : okN (n + 1) q) (o1 : ∀ p ∈ P1, okN (n + 1) p) (hl : K1.length + 1 ≤ 3) :
    H (n + 2) (fixA (K1 ++ [k]) (P1 ++ [q, e]) (K1.length + 1)) = pre (P1.map (H (n + 1))) (K1.map fun _ => (n : Int) + 2) ++ (bL ((n : Int) + 1) (H (n + 1) q) ++ ((n : Int) + 1) :: H n b) ∧
    (fixA (K1 ++ [k]) (P1 ++ [q, e]) (K1.length + 1)).ps.length = (fixA (K1 ++ [k]) (P1 ++ [q, e]) (K1.length + 1)).ks.length + 1 ∧ (fixA (K1 ++ [k]) (P1 ++ [q, e]) (K1.length + 1)).ks.length ≤ 3 ∧ ∀ p ∈ (fixA (K1 ++ [k]) (P1 ++ [q, e]) (K1.length + 1)).ps, okN (n + 1) p := by
  subst he
  rw [fixA_at h1, bL_H oq]
  obtain ⟨q1, q2, q3, q4⟩ := oq
  by_cases c : 1 < q.ks.length
  · rw [if_pos c, if_pos c]
    have hpn : q.ps ≠ [] := fun z => by
      rw [z] at q1
      cases q1
    have hkn : q.ks ≠ [] := fun z => by
      rw [z] at c
      cases c
    have ep := List.dropLast_concat_getLast hpn
    have ek := List.dropLast_concat_getLast hkn
    have d1 : q.ps.drop (q.ps.length - 1) = [q.ps.getLast hpn] := by
      conv => lhs; rw [← ep]
      rw [List.length_append, List.drop_append, List.drop_eq_nil_of_le (by simp)]
      simp
    have d2 : q.ks.drop (q.ks.length - 1) = [q.ks.getLast hkn] := by
      conv => lhs; rw [← ek]
      rw [List.length_append, List.drop_append, List.drop_eq_nil_of_le (by simp)]
      simp
    rw [d1, d2]
    have okr : okN n (q.ps.getLast hpn) := q4 _ (List.getLast_mem hpn)
    refine ⟨?_, ?_, ?_, fun p hp' => ?_⟩
    · rw [H_parts (K1 := K1) (K2 := [q.ks.getLast hkn]) (P2 := [mkT [k] ([q.ps.getLast hpn] ++ (mkT [] [b] : Tr (n + 1)).ps)]) h1 rfl]
      have e2 : suf ([q.ks.getLast hkn].map fun _ => (n : Int) + 2) ([mkT [k] ([q.ps.getLast hpn] ++ (mkT [] [b] : Tr (n + 1)).ps)].map (H (n + 1))) = ((n : Int) + 2) :: (H n (q.ps.getLast hpn) ++ ((n : Int) + 1) :: H n b) := by
        show ((n : Int) + 2) :: ((H n (q.ps.getLast hpn) ++ ((n : Int) + 1) :: H n b) ++ []) = _
        rw [List.append_nil]
      have e3 : weave ([q.ps.getLast hpn].map (H n)) [] = H n (q.ps.getLast hpn) := rfl
      rw [e2, e3]
      simp
    · simp [h1]
    · simp only [ks_mk, List.length_append]
      exact hl
    · rcases List.mem_append.mp hp' with hp' | hp'
      · exact o1 p hp'
      · rcases List.mem_cons.mp hp' with rfl | hp'
        · exact ⟨by simp only [ks_mk, ps_mk, List.length_take]; omega, by simp only [ks_mk, List.length_take]; omega, by simp only [ks_mk, List.length_take]; omega, fun x hx => q4 x (List.mem_of_mem_take hx)⟩
        · rw [List.mem_singleton.mp hp']
          exact ⟨rfl, by simp, by simp, fun x hx => by
            rcases List.mem_cons.mp hx with rfl | hx
            · exact okr
            · rw [List.mem_singleton.mp hx]; exact ob⟩
  · rw [if_neg c, if_neg c]
    refine ⟨?_, ?_, ?_, fun p hp' => ?_⟩
    · have e0 := H_parts (K1 := K1) (K2 := []) (P2 := []) (c := mkT (q.ks ++ [k]) (q.ps ++ (mkT [] [b] : Tr (n + 1)).ps)) h1 rfl
      rw [List.append_nil] at e0
      rw [e0]
      have e2 : H (n + 1) (mkT (q.ks ++ [k]) (q.ps ++ (mkT [] [b] : Tr (n + 1)).ps)) = H (n + 1) q ++ ((n : Int) + 1) :: H n b := by
        rw [H_mk, List.map_append, List.map_append]
        exact weave_snoc _ _ _ _ (by rw [List.length_map, List.length_map]; exact q1)
      rw [e2]
      simp [suf]
    · simp [h1]
    · simp only [ks_mk]
      omega
    · rcases List.mem_append.mp hp' with hp' | hp'
      · exact o1 p hp'
      · rw [List.mem_singleton.mp hp']
        refine ⟨by simp [q1], by simp, by simp only [ks_mk, List.length_append]; show q.ks.length + 1 ≤ 3; omega, fun x hx => ?_⟩
        rcases List.mem_append.mp hx with hx | hx
        · exact q4 x hx
        · rw [List.mem_singleton.mp hx]; exact ob
theorem main67 : ∀ (n : Nat) (t : Tr (n + 1)) (key : Int), okN (n + 1) t → srt (keysT (n + 1) t) → key ∈ keysT (n + 1) t → ∀ X Y : List Int, (∀ l : Int, 1 ≤ l → l ≤ (n : Int) + 1 → Good l X ∧ GoodR l Y) →
    ((tk n t key).ks ≠ [] → okN (n + 1) (tk n t key) ∧ Lp 1 (X ++ Rm n t key ++ Y) (X ++ H (n + 1) (tk n t key) ++ Y)) ∧
    ((tk n t key).ks = [] → (∃ c, (tk n t key).ps = [c] ∧ okN n c) ∧ ∀ r, Lp ((n : Int) + 1) (X ++ H (n + 1) (tk n t key) ++ Y) r → Lp 1 (X ++ Rm n t key ++ Y) r)
  | 0, t, key, ho, hs, hk, X, Y, hc => by
    have k1 := keys1 ho.1
    rw [k1] at hs hk
    obtain ⟨K1, K2, hkk⟩ := List.append_of_mem hk
    rw [hkk] at hs
    have hf : (t.ks.filter fun k => decide (k ≠ key)) = K1 ++ K2 := by rw [hkk]; exact filt_ne hs
    have lk : t.ks.length = K1.length + K2.length + 1 := by rw [hkk, List.length_append, List.length_cons]; omega
    have hpl : (t.ps.drop 1).length = (K1 ++ K2).length + 1 := by rw [List.length_drop, ho.1, lk, List.length_append]; omega
    have e1 : tk 0 t key = mkT (K1 ++ K2) (t.ps.drop 1) := by rw [tk, hf]
    have e2 : Rm 0 t key = (K1 ++ K2).map fun _ => 1 := by rw [Rm, hf]
    have e3 : H 1 (tk 0 t key) = Rm 0 t key := by
      rw [e1, e2]
      exact H1 hpl
    have h3 := ho.2.2.1
    have g1 := hc 1 (by omega) (by omega)
    refine ⟨fun hne => ?_, fun hnil => ⟨?_, fun r hr => ?_⟩⟩
    · have hne' : 1 ≤ (K1 ++ K2).length := by
        rw [e1] at hne
        exact List.length_pos_iff.mpr hne
      have ok' : okN 1 (tk 0 t key) := by
        rw [e1]
        exact ⟨hpl, hne', by rw [ks_mk, List.length_append]; omega, fun _ _ => trivial⟩
      refine ⟨ok', ?_⟩
      rw [← e3]
      exact .done (.stop ((GoodAll.left g1.1 (ok_good 1 _ ok' 1 (by omega) (by omega))).right g1.2))
    · rw [e1, ks_mk] at hnil
      rw [hnil] at hpl
      rw [e1, ps_mk]
      match hq : t.ps.drop 1, hpl with
      | [c], _ => exact ⟨c, rfl, trivial⟩
    · rw [← e3]
      exact hr
  | n + 1, t, key, ho, hs, hk, X, Y, hc => by
    obtain ⟨K1, K2, P1, c, P2, A⟩ := at2 ho hs hk
    have cps : c ∈ t.ps := by rw [A.ps]; exact List.mem_append_right _ List.mem_cons_self
    have oc := ho.2.2.2 c cps
    have hs2 := hs
    rw [A.keys] at hs2
    have sc : srt (keysT (n + 1) c) := (List.pairwise_append.mp (List.pairwise_append.mp hs2).1).2.1
    obtain ⟨K2', B⟩ := at3 A oc
    have lv : ((n + 1 : Nat) : Int) + 1 = (n : Int) + 2 := by omega
    rw [lv] at hc ⊢
    have okp : ∀ p ∈ P1, okN (n + 1) p := fun p hp => ho.2.2.2 p (by rw [A.ps]; exact List.mem_append_left _ hp)
    have okq : ∀ p ∈ P2, okN (n + 1) p := fun p hp => ho.2.2.2 p (by rw [A.ps]; exact List.mem_append_right _ (List.mem_cons_of_mem _ hp))
    have hoM : okN (n + 2) (mkT (K1 ++ K2) (P1 ++ c :: P2)) := by rw [← A.ks, ← A.ps]; exact ho
    have cK : ∀ (K : List Int), ∀ k ∈ K.map (fun _ => (n : Int) + 2), k = (n : Int) + 2 := fun K k hk => by
      obtain ⟨_, _, rfl⟩ := List.mem_map.mp hk
      rfl
    have gP : ∀ (P : List (Tr (n + 1))), (∀ p ∈ P, okN (n + 1) p) → ∀ l : Int, 1 ≤ l → l ≤ (n : Int) + 1 → ∀ p ∈ P.map (H (n + 1)), GoodAll l p := fun P hP l h1 h2 p hp => by
      obtain ⟨q, hq, rfl⟩ := List.mem_map.mp hp
      exact ok_good (n + 1) q (hP q hq) l h1 (by omega)
    have lm1 : (P1.map (H (n + 1))).length = (K1.map fun _ => (n : Int) + 2).length := by rw [List.length_map, List.length_map]; exact A.l1
    have lm2 : (P2.map (H (n + 1))).length = (K2.map fun _ => (n : Int) + 2).length := by rw [List.length_map, List.length_map]; exact A.l2
    have ctx : ∀ l : Int, 1 ≤ l → l ≤ (n : Int) + 1 → Good l (X ++ pre (P1.map (H (n + 1))) (K1.map fun _ => (n : Int) + 2)) ∧ GoodR l (suf (K2.map fun _ => (n : Int) + 2) (P2.map (H (n + 1))) ++ Y) := fun l h1 h2 => by
      obtain ⟨a, b⟩ := hc l h1 (by omega)
      exact ⟨a.app (pre_good (x := (n : Int) + 2) (by omega) _ _ lm1 (gP P1 okp l h1 h2) (cK K1)), suf_good (x := (n : Int) + 2) (by omega) _ _ Y lm2 (gP P2 okq l h1 h2) (cK K2) b⟩
    obtain ⟨ia, ib⟩ := main67 n c (kyOf t key) oc sc B.inn (X ++ pre (P1.map (H (n + 1))) (K1.map fun _ => (n : Int) + 2)) (suf (K2.map fun _ => (n : Int) + 2) (P2.map (H (n + 1))) ++ Y) ctx
    have sK : (K2'.map fun _ => (n : Int) + 2) = K2.map fun _ => (n : Int) + 2 := map_const _ B.len
    have lhs : ∀ M : List Int, X ++ (pre (P1.map (H (n + 1))) (K1.map fun _ => (n : Int) + 2) ++ M ++ suf (K2.map fun _ => (n : Int) + 2) (P2.map (H (n + 1)))) ++ Y = X ++ pre (P1.map (H (n + 1))) (K1.map fun _ => (n : Int) + 2) ++ M ++ (suf (K2.map fun _ => (n : Int) + 2) (P2.map (H (n + 1))) ++ Y) := fun M => by simp
    have top := hc ((n : Int) + 2) (by omega) (Int.le_refl _)
    have fin : ∀ t' : Tr (n + 2), okN (n + 2) t' → Lp ((n : Int) + 2) (X ++ H (n + 2) t' ++ Y) (X ++ H (n + 2) t' ++ Y) := fun t' ok' => .done (.stop ((GoodAll.left top.1 (ok_good (n + 2) t' ok' _ (by omega) (by omega))).right top.2))
    rw [B.rme, lhs]
    by_cases ce : (tk n c (kyOf t key)).ks = []
    case neg =>
      obtain ⟨ok', h⟩ := ia ce
      have e : tk (n + 1) t key = mkT (K1 ++ K2') (P1 ++ tk n c (kyOf t key) :: P2) := by rw [B.tke, if_pos ce]
      have okt := ok_parts hoM B.len ok'
      rw [e]
      refine ⟨fun _ => ⟨okt, ?_⟩, fun hn => ?_⟩
      · rw [H_parts A.l1 (A.l2.trans B.len.symm), sK, lhs]
        exact h
      · exfalso
        have := okt.2.1
        rw [hn] at this
        cases this
    case pos =>
      obtain ⟨⟨b, hb, okb⟩, ih⟩ := ib ce
      have eta : tk n c (kyOf t key) = mkT [] [b] := by
        have := mk_eta (tk n c (kyOf t key))
        rw [ce, hb] at this
        exact this.symm
      have He : H (n + 1) (tk n c (kyOf t key)) = H n b := by
        rw [eta]
        rfl
      have blow : ∀ h ∈ H n b, h < (n : Int) + 1 := fun h hh => by
        have := H_le n b okb h hh
        omega
      -- what one more pass has to show
      suffices z : ∃ t' : Tr (n + 2), tk (n + 1) t key = t' ∧ Fill ((n : Int) + 1) (X ++ pre (P1.map (H (n + 1))) (K1.map fun _ => (n : Int) + 2) ++ H n b ++ (suf (K2.map fun _ => (n : Int) + 2) (P2.map (H (n + 1))) ++ Y)) (some (X ++ H (n + 2) t' ++ Y)) ∧ t'.ps.length = t'.ks.length + 1 ∧ t'.ks.length ≤ 3 ∧ ∀ p ∈ t'.ps, okN (n + 1) p by
        obtain ⟨t', e, hf, z1, z2, z3⟩ := z
        rw [e]
        rw [He] at ih
        have stp : ∀ r, Lp ((n : Int) + 2) (X ++ H (n + 2) t' ++ Y) r → Lp 1 (X ++ pre (P1.map (H (n + 1))) (K1.map fun _ => (n : Int) + 2) ++ Rm n c (kyOf t key) ++ (suf (K2.map fun _ => (n : Int) + 2) (P2.map (H (n + 1))) ++ Y)) r := fun r hr => ih r (.step hf (by rw [show (n : Int) + 1 + 1 = (n : Int) + 2 by omega]; exact hr))
        refine ⟨fun hne => ?_, fun hn => ⟨?_, stp⟩⟩
        · have ok' : okN (n + 2) t' := ⟨z1, List.length_pos_iff.mpr hne, z2, z3⟩
          exact ⟨ok', stp _ (fin t' ok')⟩
        · rw [hn] at z1
          match hq : t'.ps, z1 with
          | [c2], _ => exact ⟨c2, rfl, z3 c2 (by rw [hq]; exact List.mem_cons_self)⟩
      have h0 := hoM.1
      have h3 := hoM.2.2.1
      simp only [ks_mk, ps_mk, List.length_append, List.length_cons] at h0 h3
      have gA : Good ((n : Int) + 1) (X ++ pre (P1.map (H (n + 1))) (K1.map fun _ => (n : Int) + 2)) := (ctx _ (by omega) (Int.le_refl _)).1
      have hY : Y = [] ∨ ∃ y Y', Y = y :: Y' ∧ (n : Int) + 2 < y := top.2.head
      cases hK2 : K2' with
      | cons k K3 =>
        have hl2 : K2.length = K3.length + 1 := by rw [← B.len, hK2]; rfl
        match P2, (A.l2.trans hl2 : P2.length = K3.length + 1) with
        | q :: P3, lq =>
          have lq' : P3.length = K3.length := by simpa using lq
          have oq := okq q List.mem_cons_self
          have e : tk (n + 1) t key = fixB (K1 ++ k :: K3) (P1 ++ tk n c (kyOf t key) :: q :: P3) K1.length := by
            rw [B.tke, if_neg (by rw [ce]; simp), hK2, if_pos (by rw [List.length_append]; simp)]
          have sK2 : (K2.map fun _ => (n : Int) + 2) = ((n : Int) + 2) :: K3.map fun _ => (n : Int) + 2 := by
            rw [← sK, hK2]
            rfl
          obtain ⟨z1, z2⟩ := behind67 (k := k) A.l1 lq' eta okb oq okp (fun p hp => okq p (List.mem_cons_of_mem _ hp)) (by omega)
          refine ⟨_, e, ?_, z2⟩
          have hTail : (suf (K3.map fun _ => (n : Int) + 2) (P3.map (H (n + 1))) ++ Y = []) ∨ ∃ c C', suf (K3.map fun _ => (n : Int) + 2) (P3.map (H (n + 1))) ++ Y = c :: C' ∧ (n : Int) + 1 < c := by
            cases K3 with
            | nil =>
              rcases hY with rfl | ⟨y, Y', rfl, hy⟩
              · left
                rfl
              · right
                exact ⟨y, Y', rfl, by omega⟩
            | cons k3 K3 =>
              cases P3 with
              | nil => cases lq'
              | cons p3 P3 => exact .inr ⟨(n : Int) + 2, _, rfl, by omega⟩
          have F := Fill.behind (l := (n : Int) + 1) (S := H n b) (T := H (n + 1) q) (C := suf (K3.map fun _ => (n : Int) + 2) (P3.map (H (n + 1))) ++ Y) gA blow (fun h hh => by have := H_le (n + 1) q oq h hh; omega) (by
            obtain ⟨A', S', e1, _, _, e4⟩ := ok_good (n + 1) q oq ((n : Int) + 1) (by omega) (by omega)
            rw [e1]
            exact List.mem_append_right _ e4) hTail
          rw [show (n : Int) + 1 + 1 = (n : Int) + 2 by omega] at F
          have e1 : suf (((n : Int) + 2) :: K3.map fun _ => (n : Int) + 2) ((q :: P3).map (H (n + 1))) ++ Y = ((n : Int) + 2) :: (H (n + 1) q ++ (suf (K3.map fun _ => (n : Int) + 2) (P3.map (H (n + 1))) ++ Y)) := by simp [suf]
          rw [sK2, e1, z1]
          have e2 : X ++ (pre (P1.map (H (n + 1))) (K1.map fun _ => (n : Int) + 2) ++ (H n b ++ ((n : Int) + 1) :: bF ((n : Int) + 1) (H (n + 1) q)) ++ suf (K3.map fun _ => (n : Int) + 2) (P3.map (H (n + 1)))) ++ Y =
              X ++ pre (P1.map (H (n + 1))) (K1.map fun _ => (n : Int) + 2) ++ H n b ++ ((n : Int) + 1) :: (bF ((n : Int) + 1) (H (n + 1) q) ++ (suf (K3.map fun _ => (n : Int) + 2) (P3.map (H (n + 1))) ++ Y)) := by simp
          rw [e2]
          exact F
      | nil =>
        have hl2 : K2.length = 0 := by rw [← B.len, hK2]; rfl
        have hP2 : P2 = [] := List.length_eq_zero_iff.mp (A.l2.trans hl2)
        have hK20 : K2 = [] := List.length_eq_zero_iff.mp hl2
        have h1 := hoM.2.1
        simp only [ks_mk, List.length_append, hl2] at h1
        have hKn : K1 ≠ [] := fun z => by rw [z] at h1; cases h1
        have hPn : P1 ≠ [] := fun z => by
          have := A.l1
          rw [z] at this
          rw [← this] at h1
          cases h1
        have eK := List.dropLast_concat_getLast hKn
        have eP := List.dropLast_concat_getLast hPn
        have lP : P1.dropLast.length = K1.dropLast.length := by rw [List.length_dropLast, List.length_dropLast, A.l1]
        have oq := okp _ (List.getLast_mem hPn)
        have lK : K1.length = K1.dropLast.length + 1 := by rw [List.length_dropLast]; omega
        have e : tk (n + 1) t key = fixA (K1.dropLast ++ [K1.getLast hKn]) (P1.dropLast ++ [P1.getLast hPn, tk n c (kyOf t key)]) (K1.dropLast.length + 1) := by
          rw [B.tke, if_neg (by rw [ce]; simp), hK2, hP2, List.append_nil, if_neg (by omega), eK, ← lK]
          conv => lhs; rw [← eP]
          rw [List.append_assoc]
          rfl
        have okp' : ∀ p ∈ P1.dropLast, okN (n + 1) p := fun p hp => okp p (List.dropLast_subset _ hp)
        obtain ⟨z1, z2⟩ := ahead67 (k := K1.getLast hKn) lP eta okb oq okp' (by omega)
        refine ⟨_, e, ?_, z2⟩
        have gA0 : Good ((n : Int) + 1) (X ++ pre (P1.dropLast.map (H (n + 1))) (K1.dropLast.map fun _ => (n : Int) + 2)) := (hc _ (by omega) (by omega)).1.app (pre_good (x := (n : Int) + 2) (by omega) _ _ (by rw [List.length_map, List.length_map]; exact lP) (gP _ okp' _ (by omega) (Int.le_refl _)) (cK _))
        have F := Fill.ahead (l := (n : Int) + 1) (S := H n b) (T := H (n + 1) (P1.getLast hPn)) (C := Y) gA0 (fun h hh => by have := H_le (n + 1) _ oq h hh; omega) (by
          obtain ⟨A', S', e1, _, _, e4⟩ := ok_good (n + 1) _ oq ((n : Int) + 1) (by omega) (by omega)
          rw [e1]
          exact List.mem_append_right _ e4) blow (by
          rcases hY with h | ⟨y, Y', h, hy⟩
          · exact .inl h
          · exact .inr ⟨y, Y', h, by omega⟩)
        rw [show (n : Int) + 1 + 1 = (n : Int) + 2 by omega] at F
        have ep : pre (P1.map (H (n + 1))) (K1.map fun _ => (n : Int) + 2) = pre (P1.dropLast.map (H (n + 1))) (K1.dropLast.map fun _ => (n : Int) + 2) ++ H (n + 1) (P1.getLast hPn) ++ [(n : Int) + 2] := by
          conv => lhs; rw [← eP, ← eK, List.map_append, List.map_append]
          exact pre_snoc _ _ _ _ (by rw [List.length_map, List.length_map]; exact lP)
        rw [z1, ep, hP2, hK20]
        have e2 : X ++ (pre (P1.dropLast.map (H (n + 1))) (K1.dropLast.map fun _ => (n : Int) + 2) ++ H (n + 1) (P1.getLast hPn) ++ [(n : Int) + 2]) ++ H n b ++ (suf ([].map fun _ : Int => (n : Int) + 2) (([] : List (Tr (n + 1))).map (H (n + 1))) ++ Y) = X ++ pre (P1.dropLast.map (H (n + 1))) (K1.dropLast.map fun _ => (n : Int) + 2) ++ H (n + 1) (P1.getLast hPn) ++ ((n : Int) + 2) :: (H n b ++ Y) := by simp [suf]
        have e3 : X ++ (pre (P1.dropLast.map (H (n + 1))) (K1.dropLast.map fun _ => (n : Int) + 2) ++ (bL ((n : Int) + 1) (H (n + 1) (P1.getLast hPn)) ++ ((n : Int) + 1) :: H n b)) ++ Y = X ++ pre (P1.dropLast.map (H (n + 1))) (K1.dropLast.map fun _ => (n : Int) + 2) ++ bL ((n : Int) + 1) (H (n + 1) (P1.getLast hPn)) ++ ((n : Int) + 1) :: (H n b ++ Y) := by simp
        rw [e2, e3]
        exact F
end Tk
end

section
set_option Elab.async false
set_option linter.all false
set_option maxRecDepth 100000
set_option maxHeartbeats 1000000
/-! k67: keys, and what the program takes away first. -/
namespace Tk
open PySem PySem.Spec PyProof.Rows L2 Evl Tb Fd
theorem keys_mk {n : Nat} (ks : List Int) (ps : List (Tr n)) : keysT (n + 1) (mkT ks ps) = weave (ps.map (keysT n)) ks := rfl
theorem keys_parts {n : Nat} {K1 K2 : List Int} {P1 P2 : List (Tr (n + 1))} {c : Tr (n + 1)} (h1 : P1.length = K1.length) (h2 : P2.length = K2.length) :
    keysT (n + 2) (mkT (K1 ++ K2) (P1 ++ c :: P2)) = pre (P1.map (keysT (n + 1))) K1 ++ keysT (n + 1) c ++ suf K2 (P2.map (keysT (n + 1))) := by
  rw [keys_mk, List.map_append, List.map_cons]
  exact weave_mid _ (by rw [List.length_map]; exact h1) (by rw [List.length_map]; exact h2)
theorem behindK {n : Nat} {K1 K3 : List Int} {k : Int} {P1 P3 : List (Tr (n + 1))} {e q : Tr (n + 1)} {b : Tr n} (h1 : P1.length = K1.length) (h3 : P3.length = K3.length) (he : e = mkT [] [b]) (oq : okN (n + 1) q) :
    keysT (n + 2) (fixB (K1 ++ k :: K3) (P1 ++ e :: q :: P3) K1.length) = pre (P1.map (keysT (n + 1))) K1 ++ keysT (n + 1) e ++ suf (k :: K3) ((q :: P3).map (keysT (n + 1))) := by
  subst he
  rw [fixB_at h1]
  obtain ⟨q1, q2, q3, q4⟩ := oq
  have eb : keysT (n + 1) (mkT [] [b]) = keysT n b := rfl
  rw [eb]
  by_cases c : 1 < q.ks.length
  · rw [if_pos c]
    match hk : q.ks, hp : q.ps, c, q1 with
    | o :: ks, r :: ps, c, q1 =>
      have e1 : mkT (K1 ++ (o :: ks).take 1 ++ K3) (P1 ++ [mkT [k] ((mkT [] [b] : Tr (n + 1)).ps ++ (r :: ps).take 1), mkT ((o :: ks).drop 1) ((r :: ps).drop 1)] ++ P3) = mkT (K1 ++ o :: K3) (P1 ++ mkT [k] [b, r] :: mkT ks ps :: P3) := by simp
      rw [e1, keys_parts h1 (by simp [h3])]
      have e2 : keysT (n + 1) (mkT [k] [b, r]) = keysT n b ++ k :: keysT n r := rfl
      have e3 : keysT (n + 1) q = keysT n r ++ o :: keysT (n + 1) (mkT ks ps) := by
        show weave (q.ps.map (keysT n)) q.ks = _
        rw [hk, hp]
        rfl
      rw [e2]
      simp [suf, e3]
  · rw [if_neg c]
    have e1 : mkT (K1 ++ K3) (P1 ++ [mkT (k :: q.ks) ((mkT [] [b] : Tr (n + 1)).ps ++ q.ps)] ++ P3) = mkT (K1 ++ K3) (P1 ++ mkT (k :: q.ks) (b :: q.ps) :: P3) := by simp
    rw [e1, keys_parts h1 h3]
    have e2 : keysT (n + 1) (mkT (k :: q.ks) (b :: q.ps)) = keysT n b ++ k :: keysT (n + 1) q := rfl
    rw [e2]
    simp [suf]
theorem aheadK {n : Nat} {K1 : List Int} {k : Int} {P1 : List (Tr (n + 1))} {e q : Tr (n + 1)} {b : Tr n} (h1 : P1.length = K1.length) (he : e = mkT [] [b]) (oq : okN (n + 1) q) :
    keysT (n + 2) (fixA (K1 ++ [k]) (P1 ++ [q, e]) (K1.length + 1)) = pre (P1.map (keysT (n + 1))) K1 ++ (keysT (n + 1) q ++ k :: keysT (n + 1) e) := by
  subst he
  rw [fixA_at h1]
  obtain ⟨q1, q2, q3, q4⟩ := oq
  have eb : keysT (n + 1) (mkT [] [b]) = keysT n b := rfl
  rw [eb]
  by_cases c : 1 < q.ks.length
  · rw [if_pos c]
    have hpn : q.ps ≠ [] := fun z => by
      rw [z] at q1
      cases q1
    have hkn : q.ks ≠ [] := fun z => by
      rw [z] at c
      cases c
    have ep := List.dropLast_concat_getLast hpn
    have ek := List.dropLast_concat_getLast hkn
    have d1 : q.ps.drop (q.ps.length - 1) = [q.ps.getLast hpn] := by
      conv => lhs; rw [← ep]
      rw [List.length_append, List.drop_append, List.drop_eq_nil_of_le (by simp)]
      simp
    have d2 : q.ks.drop (q.ks.length - 1) = [q.ks.getLast hkn] := by
      conv => lhs; rw [← ek]
      rw [List.length_append, List.drop_append, List.drop_eq_nil_of_le (by simp)]
      simp
    rw [d1, d2, keys_parts (K1 := K1) (K2 := [q.ks.getLast hkn]) (P2 := [mkT [k] ([q.ps.getLast hpn] ++ (mkT [] [b] : Tr (n + 1)).ps)]) h1 rfl, ← List.dropLast_eq_take, ← List.dropLast_eq_take]
    have e2 : suf [q.ks.getLast hkn] ([mkT [k] ([q.ps.getLast hpn] ++ (mkT [] [b] : Tr (n + 1)).ps)].map (keysT (n + 1))) = q.ks.getLast hkn :: (keysT n (q.ps.getLast hpn) ++ k :: keysT n b) := by
      show q.ks.getLast hkn :: ((keysT n (q.ps.getLast hpn) ++ k :: keysT n b) ++ []) = _
      rw [List.append_nil]
    have e3 : keysT (n + 1) q = keysT (n + 1) (mkT q.ks.dropLast q.ps.dropLast) ++ q.ks.getLast hkn :: keysT n (q.ps.getLast hpn) := by
      show weave (q.ps.map (keysT n)) q.ks = weave (q.ps.dropLast.map (keysT n)) q.ks.dropLast ++ _
      conv => lhs; rw [← ep, ← ek, List.map_append]
      exact weave_snoc _ _ _ _ (by rw [List.length_map, List.length_dropLast, List.length_dropLast, q1]; omega)
    rw [e2, e3]
    simp
  · rw [if_neg c]
    have e0 := keys_parts (K1 := K1) (K2 := []) (P2 := []) (c := mkT (q.ks ++ [k]) (q.ps ++ (mkT [] [b] : Tr (n + 1)).ps)) h1 rfl
    rw [List.append_nil] at e0
    rw [e0]
    have e2 : keysT (n + 1) (mkT (q.ks ++ [k]) (q.ps ++ (mkT [] [b] : Tr (n + 1)).ps)) = keysT (n + 1) q ++ k :: keysT n b := by
      rw [keys_mk, List.map_append]
      exact weave_snoc _ _ _ _ (by rw [List.length_map]; exact q1)
    rw [e2]
    simp [suf]
theorem filt_out' {U V : List Int} {key : Int} (h : srt (U ++ key :: V)) : (U ++ key :: V).filter (fun k => decide (k ≠ key)) = U ++ V := filt_ne h
theorem none_left {U V W : List Int} {key : Int} (h : srt (U ++ V ++ W)) (hk : key ∈ V) : (∀ k ∈ U, k ≠ key) ∧ ∀ k ∈ W, k ≠ key := by
  obtain ⟨h1, h2, h3⟩ := List.pairwise_append.mp h
  obtain ⟨h4, h5, h6⟩ := List.pairwise_append.mp h1
  exact ⟨fun k hk' z => by have := h6 k hk' key hk; omega, fun k hk' z => by have := h3 key (List.mem_append_right _ hk) k hk'; omega⟩
theorem filt_all {U : List Int} {key : Int} (h : ∀ k ∈ U, k ≠ key) : U.filter (fun k => decide (k ≠ key)) = U := List.filter_eq_self.mpr fun k hk => decide_eq_true (h k hk)
theorem keys_last {n : Nat} {t : Tr (n + 1)} (ho : okN (n + 1) t) : ∃ U, keysT (n + 1) t = U ++ [lastK n t] := by
  obtain ⟨U, hU⟩ := last_flat n t ho
  exact ⟨U.map (·.1), by rw [← keys_flat, hU, List.map_append]; rfl⟩
theorem tk_nil {n : Nat} {t : Tr (n + 1)} {key : Int} (ho : okN (n + 1) t) (hs : srt (keysT (n + 1) t)) (hk : key ∈ keysT (n + 1) t) (h : (tk n t key).ks = []) : ∃ b, tk n t key = mkT [] [b] ∧ okN n b := by
  obtain ⟨⟨b, hb, ob⟩, _⟩ := (main67 n t key ho hs hk [] [] fun l _ _ => ⟨.nil, .nil⟩).2 h
  refine ⟨b, ?_, ob⟩
  have := mk_eta (tk n t key)
  rw [h, hb] at this
  exact this.symm
/-- the keys are those that were there, but one -/
theorem keys_tk : ∀ (n : Nat) (t : Tr (n + 1)) (key : Int), okN (n + 1) t → srt (keysT (n + 1) t) → key ∈ keysT (n + 1) t → keysT (n + 1) (tk n t key) = (keysT (n + 1) t).filter fun k => decide (k ≠ key)
  | 0, t, key, ho, hs, hk => by
    have k1 := keys1 ho.1
    rw [k1] at hs hk ⊢
    obtain ⟨K1, K2, hkk⟩ := List.append_of_mem hk
    have lk : t.ks.length = K1.length + K2.length + 1 := by rw [hkk, List.length_append, List.length_cons]; omega
    have hf : (t.ks.filter fun k => decide (k ≠ key)) = K1 ++ K2 := by rw [hkk] at hs ⊢; exact filt_ne hs
    have e1 : tk 0 t key = mkT (K1 ++ K2) (t.ps.drop 1) := by rw [tk, hf]
    rw [hf, e1]
    exact keys1 (t := mkT (K1 ++ K2) (t.ps.drop 1)) (by rw [ps_mk, ks_mk, List.length_drop, ho.1, lk, List.length_append]; omega)
  | n + 1, t, key, ho, hs, hk => by
    obtain ⟨K1, K2, P1, c, P2, A⟩ := at2 ho hs hk
    have cps : c ∈ t.ps := by rw [A.ps]; exact List.mem_append_right _ List.mem_cons_self
    have oc := ho.2.2.2 c cps
    have hs2 := hs
    rw [A.keys] at hs2
    have sc : srt (keysT (n + 1) c) := (List.pairwise_append.mp (List.pairwise_append.mp hs2).1).2.1
    obtain ⟨K2', B⟩ := at3 A oc
    have ih := keys_tk n c (kyOf t key) oc sc B.inn
    have okp : ∀ p ∈ P1, okN (n + 1) p := fun p hp => ho.2.2.2 p (by rw [A.ps]; exact List.mem_append_left _ hp)
    have okq : ∀ p ∈ P2, okN (n + 1) p := fun p hp => ho.2.2.2 p (by rw [A.ps]; exact List.mem_append_right _ (List.mem_cons_of_mem _ hp))
    have l2' := A.l2.trans B.len.symm
    -- whatever is done, the keys stand in one order
    have one : keysT (n + 2) (tk (n + 1) t key) = pre (P1.map (keysT (n + 1))) K1 ++ keysT (n + 1) (tk n c (kyOf t key)) ++ suf K2' (P2.map (keysT (n + 1))) := by
      rw [B.tke]
      by_cases ce : (tk n c (kyOf t key)).ks = []
      · rw [if_neg (by rw [ce]; simp)]
        obtain ⟨b, eta, ob⟩ := tk_nil oc sc B.inn ce
        cases hK2 : K2' with
        | cons k K3 =>
          rw [hK2] at l2'
          match P2, l2' with
          | q :: P3, lq =>
            rw [if_pos (by rw [List.length_append]; simp)]
            exact behindK A.l1 (by simpa using lq) eta (okq q List.mem_cons_self)
        | nil =>
          rw [hK2] at l2'
          have hP2 : P2 = [] := List.length_eq_zero_iff.mp l2'
          have hK20 : K2 = [] := List.length_eq_zero_iff.mp (by rw [← A.l2, hP2]; rfl)
          have h1 := ho.2.1
          rw [A.ks, hK20, List.append_nil] at h1
          have hKn : K1 ≠ [] := fun z => by rw [z] at h1; cases h1
          have hPn : P1 ≠ [] := fun z => by
            have := A.l1
            rw [z] at this
            rw [← this] at h1
            cases h1
          have eK := List.dropLast_concat_getLast hKn
          have eP := List.dropLast_concat_getLast hPn
          have lP : P1.dropLast.length = K1.dropLast.length := by rw [List.length_dropLast, List.length_dropLast, A.l1]
          have lK : K1.length = K1.dropLast.length + 1 := by rw [List.length_dropLast]; omega
          have Z := aheadK (k := K1.getLast hKn) lP eta (okp _ (List.getLast_mem hPn))
          rw [if_neg (by rw [List.append_nil]; omega), hP2, List.append_nil]
          have e1 : fixA K1 (P1 ++ [tk n c (kyOf t key)]) K1.length = fixA (K1.dropLast ++ [K1.getLast hKn]) (P1.dropLast ++ [P1.getLast hPn, tk n c (kyOf t key)]) (K1.dropLast.length + 1) := by
            rw [eK, ← lK]
            conv => lhs; rw [← eP]
            rw [List.append_assoc]
            rfl
          have ep : pre (P1.map (keysT (n + 1))) K1 = pre (P1.dropLast.map (keysT (n + 1))) K1.dropLast ++ keysT (n + 1) (P1.getLast hPn) ++ [K1.getLast hKn] := by
            conv => lhs; rw [← eP, ← eK, List.map_append]
            exact pre_snoc _ _ _ _ (by rw [List.length_map]; exact lP)
          rw [e1, Z, ep]
          simp [suf]
      · rw [if_pos ce]
        exact keys_parts A.l1 l2'
    rw [one, ih, A.keys, List.filter_append, List.filter_append]
    rcases B.kcs with ⟨hm, hky, K3, rfl, rfl⟩ | ⟨hm, hky, rfl⟩
    · obtain ⟨U, hU⟩ := keys_last oc
      match P2, A.l2 with
      | p :: P3, lq =>
        rw [hky, hU]
        have sU : srt (U ++ lastK n c :: []) := by rw [← hU]; exact sc
        rw [filt_ne sU, List.append_nil]
        have e0 : suf (key :: K3) ((p :: P3).map (keysT (n + 1))) = key :: (keysT (n + 1) p ++ suf K3 (P3.map (keysT (n + 1)))) := rfl
        have e1 : suf (lastK n c :: K3) ((p :: P3).map (keysT (n + 1))) = lastK n c :: (keysT (n + 1) p ++ suf K3 (P3.map (keysT (n + 1)))) := rfl
        rw [e0, e1]
        rw [e0] at hs2
        have hs3 : srt ((pre (P1.map (keysT (n + 1))) K1 ++ keysT (n + 1) c) ++ [key] ++ (keysT (n + 1) p ++ suf K3 (P3.map (keysT (n + 1))))) := by simpa using hs2
        obtain ⟨a1, a2⟩ := none_left hs3 (List.mem_singleton.mpr rfl)
        rw [filt_all fun k hk => a1 k (List.mem_append_left _ hk), ← hU, filt_all fun k hk => a1 k (List.mem_append_right _ hk), List.filter_cons, if_neg (by simp), filt_all a2, hU]
        simp
    · rcases A.here with ⟨hm', _⟩ | ⟨_, hin⟩
      · exact absurd hm' hm
      · obtain ⟨a1, a2⟩ := none_left hs2 hin
        rw [hky, filt_all a1, filt_all a2]
end Tk
end

section
set_option Elab.async false
set_option linter.all false
set_option maxRecDepth 100000
set_option maxHeartbeats 1000000
/-! k67: towers and numbers, as in k64 and k47. -/
namespace Tk
open PySem PySem.Spec PyProof.Rows L2 Evl Tb Fd
theorem e_is_whole (d : PyData) : F_is_whole [d] = some (.bool (wholeD d)) := by
  cases d <;> simp [F_is_whole, fnD, m_is_whole, init, retD, wholeD]
theorem e_is_row (d : PyData) : F_is_row [d] = some (.bool (rowD d)) := by
  simp [F_is_row, fnD, m_is_row, init, retD]
theorem e_check_number2 {v l : Int} (h : l ≤ v) : F_check_number [.int v, .int l, .none] = some .none := by
  have h1 : ¬ v < l := by omega
  simp [F_check_number, fnD, m_check_number, init, e_is_whole, wholeD, retD, h1]
theorem e_check_number3 {v l g : Int} (h : l ≤ v) (hg : v ≤ g) : F_check_number [.int v, .int l, .int g] = some .none := by
  have h1 : ¬ v < l := by omega
  have h2 : ¬ g < v := by omega
  simp [F_check_number, fnD, m_check_number, init, e_is_whole, wholeD, retD, h1, h2]
/-- towers: keys rise, heights are from 1 on -/
def okT : Option Int → Tw → Prop
  | _, [] => True
  | p, kh :: ts => (∀ q, p = some q → q < kh.1) ∧ 1 ≤ kh.2 ∧ okT (some kh.1) ts
theorem okT_pos : ∀ {ts : Tw} {p : Option Int}, okT p ts → ∀ kh ∈ ts, 1 ≤ kh.2
  | kh :: ts, p, ⟨_, h1, h2⟩, x, hx => by
    rcases List.mem_cons.mp hx with rfl | hx
    · exact h1
    · exact okT_pos h2 x hx
theorem okT_next : ∀ {ts : Tw} {p : Option Int} {i : Nat} {a b : Int × Int}, okT p ts → ts[i]? = some a → ts[i + 1]? = some b → a.1 < b.1
  | [], _, _, _, _, _, h, _ => by simp at h
  | _ :: [], _, i, _, _, _, _, h => by simp at h
  | a' :: b' :: ts, _, 0, a, b, h, h1, h2 => by
    simp at h1 h2
    subst h1 h2
    exact h.2.2.1 _ rfl
  | a' :: b' :: ts, _, i + 1, a, b, h, h1, h2 => okT_next (i := i) h.2.2 (by simpa using h1) (by simpa using h2)
theorem items_tw (b c : Bool) (ts : Tw) : itemsOf (twD b c ts) = some (ts.map (Tb.prD c)) := items_rowsD ..
theorem items_pr (c : Bool) (p : Int × Int) : itemsOf (Tb.prD c p) = some [.int p.1, .int p.2] := items_rowsD ..
theorem e_is_pair (c : Bool) (p : Int × Int) : F__is_pair [prD c p] = some (.bool (decide (1 ≤ p.2))) := by
  unfold Tb.prD
  simp [F__is_pair, fnD, m__is_pair, init, e_is_row, rowD_rows, setD, canSet, e_is_whole, wholeD, retD]
theorem e_wrong_tower {ts : Tw} (b c : Bool) (h : okT none ts) : F_wrong_tower [twD b c ts] = some .none := by
  obtain ⟨e', h1, x, y, fx, fy, rfl⟩ := runFor_inv (g := dRow 2 (dGs (dName 1) (dGs (dName 2) dNil))) (b := m_wrong_tower_L1) (fun _ e => ∃ x y, Fr x ∧ Fr y ∧ e = [.d (twD b c ts), x, y]) (enD 0 (ts.map (Tb.prD c))) 0 [.d (twD b c ts), .no, .no] ⟨_, _, .no, .no, rfl⟩ (by
    rintro i d e hi ⟨x, y, fx, fy, rfl⟩
    rw [enD_get, List.getElem?_map] at hi
    cases hp : ts[i]? with
    | none =>
      rw [hp] at hi
      cases hi
    | some p =>
      rw [hp] at hi
      cases hi
      have h1 := okT_pos h p (List.mem_of_getElem? hp)
      refine ⟨[.d (twD b c ts), .d (.int (0 + (i : Int))), .d (Tb.prD c p)], [.d (twD b c ts), .d (.int (0 + (i : Int))), .d (Tb.prD c p)], ?_, .inl ?_, _, _, .d, .d, rfl⟩
      · rcases fx with rfl | ⟨x, rfl⟩ <;> rcases fy with rfl | ⟨y, rfl⟩ <;> simp [setD, canSet]
      · have k1 : ixD (Tb.prD c p) (.int 0) = some (.int p.1) := by
          unfold Tb.prD
          rw [ix_rows, at_0]
        cases i with
        | zero => simp [m_wrong_tower_L1, e_is_pair, h1]
        | succ i =>
          have hlt : i < ts.length := by
            have := (List.getElem?_eq_some_iff.mp hp).1
            omega
          have hq : ts[i]? = some ts[i] := List.getElem?_eq_getElem hlt
          have h2 := okT_next h hq hp
          have k2 : ixD (twD b c ts) (.int (0 + ((i + 1 : Nat) : Int) - 1)) = some (Tb.prD c ts[i]) := by
            unfold twD
            rw [ix_rows, show (0 : Int) + ((i + 1 : Nat) : Int) - 1 = ((i : Nat) : Int) by omega]
            exact at_nat (by rw [List.getElem?_map, hq]; rfl)
          have k3 : ixD (Tb.prD c ts[i]) (.int 0) = some (.int ts[i].1) := by
            unfold Tb.prD
            rw [ix_rows, at_0]
          have h3 : ¬ p.1 ≤ ts[i].1 := by omega
          have h4 : (0 : Int) < 0 + ((i + 1 : Nat) : Int) := by omega
          generalize (0 + ((i + 1 : Nat) : Int)) = n at k2 h4 ⊢
          simp [m_wrong_tower_L1, e_is_pair, h1, k1, k2, k3, h3, h4])
  have k0 : rowD (twD b c ts) = true := rowD_rows ..
  simp [F_wrong_tower, fnD, m_wrong_tower, init, e_is_row, k0, items_tw, h1, retD]
theorem e_check_towers {ts : Tw} (b c : Bool) (h : okT none ts) : F_check_towers [twD b c ts] = some .none := by
  simp [F_check_towers, fnD, m_check_towers, init, e_wrong_tower b c h, setD, canSet, retD]
/-- the heights of towers, as a comprehension tells them -/
theorem lc_heights {ts : Tw} (b c : Bool) (e : En) (i j k : Nat) (he : e[k]? = some (.d (twD b c ts))) (hl : ts.length ≤ 40000) (hf : vsFree e [i, j] = true) (hr : restE e (wipeE e [i, j]) [i, j] = e)
    (hs : ∀ p : Int × Int, ∃ e1, dRow 2 (dGs (dName i) (dGs (dName j) dNil)) (Tb.prD c p) (wipeE e [i, j]) = some e1 ∧ e1[j]? = some (.d (.int p.2)) ∧ wipeE e1 [i, j] = wipeE e [i, j]) :
    dLc (dItems (dVar k)) (dRow 2 (dGs (dName i) (dGs (dName j) dNil))) (dK true) (dVar j) [i, j] e = some ((ts.map (·.2)).map .int, e) := by
  have hi : dItems (dVar k) e = some (ts.map (Tb.prD c), e) := by
    have : itemsOf (twD b c ts) = some (ts.map (Tb.prD c)) := items_rowsD ..
    simp [he, this]
  have e1 : (ts.map (Tb.prD c)).filterMap (fun d => match itemsOf d with | some [_, .int h] => some (PyData.int h) | _ => none) = (ts.map (·.2)).map .int := by
    rw [List.filterMap_map, List.map_map]
    rw [show ((fun d => match itemsOf d with | some [_, .int h] => some (PyData.int h) | _ => none) ∘ Tb.prD c) = fun p => some (PyData.int p.2) from funext fun p => by
      show (match itemsOf (rows c [.int p.1, .int p.2]) with | some [_, .int h] => some (PyData.int h) | _ => none) = _
      rw [items_rowsD]]
    rw [List.filterMap_eq_map']
    rfl
  rw [← e1]
  refine dLc_map _ hi hf (by rw [List.length_map]; exact hl) hr fun d hd => ?_
  obtain ⟨p, _, rfl⟩ := List.mem_map.mp hd
  obtain ⟨e1, h1, h2, h3⟩ := hs p
  refine ⟨e1, e1, h1, ?_⟩
  have : itemsOf (Tb.prD c p) = some [.int p.1, .int p.2] := items_rowsD ..
  simp only [this]
  exact ⟨e1, rfl, by simp [h2], h3⟩
theorem e_tallest {ts : Tw} (b c : Bool) (hl : ts.length ≤ 40000) : F_tallest [twD b c ts] = some (.int (maxOf 0 (ts.map (·.2)))) := by
  have k := lc_heights (ts := ts) b c [.d (twD b c ts), .no, .no] 1 2 0 rfl hl rfl rfl fun p => ⟨[.d (twD b c ts), .d (.int p.1), .d (.int p.2)], by
    have : itemsOf (Tb.prD c p) = some [.int p.1, .int p.2] := items_rowsD ..
    simp [this, setD, canSet, wipeE], rfl, rfl⟩
  simp [F_tallest, fnD, m_tallest, init, k, maxDfD, intsOf_map, retD, -List.map_map]
def gapF (l : Int) : Int → List Int → List Int
  | g, [] => [g]
  | g, h :: hs => if l < h then g :: gapF l 0 hs else if h = l then gapF l (g + 1) hs else gapF l g hs
theorem gapF_ne (l : Int) : ∀ (hs : List Int) (g : Int), gapF l g hs ≠ []
  | [], g => by simp [gapF]
  | h :: hs, g => by
    unfold gapF
    split
    · simp
    · split
      · exact gapF_ne l hs _
      · exact gapF_ne l hs _
theorem gapF_len (l : Int) : ∀ (hs : List Int) (g : Int), (gapF l g hs).length ≤ hs.length + 1
  | [], g => by simp [gapF]
  | h :: hs, g => by
    unfold gapF
    split
    · simp only [List.length_cons]
      have := gapF_len l hs 0
      omega
    · split
      · have := gapF_len l hs (g + 1)
        rw [List.length_cons]
        omega
      · have := gapF_len l hs g
        rw [List.length_cons]
        omega
theorem gaps_loop {b c : Bool} {T : PyData} {l : Int} : ∀ (ts : Tw) (fs : List PyData) (g : Int) (x y : Sl), Fr x → Fr y → fs.length + ts.length < 80000 → ∃ (fs' : List Int) (g' : Int) (x' y' : Sl),
    runFor (dRow 2 (dGs (dName 4) (dGs (dName 5) dNil))) m__gaps_L1 (ts.map (Tb.prD c)) [.d T, .d (.int l), .o fs, .d (.int g), x, y] = some (.nx [.d T, .d (.int l), .o (fs ++ fs'.map .int), .d (.int g'), x', y']) ∧ gapF l g (ts.map (·.2)) = fs' ++ [g']
  | [], fs, g, x, y, _, _, _ => ⟨[], g, x, y, by simp [runFor], rfl⟩
  | p :: ts, fs, g, x, y, fx, fy, hz => by
    rw [List.length_cons] at hz
    have hset : dRow 2 (dGs (dName 4) (dGs (dName 5) dNil)) (Tb.prD c p) [.d T, .d (.int l), .o fs, .d (.int g), x, y] = some [.d T, .d (.int l), .o fs, .d (.int g), .d (.int p.1), .d (.int p.2)] := by
      rcases fx with rfl | ⟨x, rfl⟩ <;> rcases fy with rfl | ⟨y, rfl⟩ <;> simp [items_pr, setD, canSet]
    have hfew : few fs = true := decide_eq_true (by omega)
    rw [List.map_cons, List.map_cons]
    by_cases c1 : l < p.2
    · obtain ⟨fs', g', x', y', h1, h2⟩ := gaps_loop (b := b) (c := c) (T := T) (l := l) ts (fs ++ [.int g]) 0 (.d (.int p.1)) (.d (.int p.2)) .d .d (by rw [List.length_append]; show fs.length + 1 + _ < _; omega)
      refine ⟨g :: fs', g', x', y', ?_, ?_⟩
      · rw [runFor_cons_nx hset (e2 := [.d T, .d (.int l), .o (fs ++ [.int g]), .d (.int 0), .d (.int p.1), .d (.int p.2)]) (by simp [m__gaps_L1, c1, sMeth, ownL, hfew, appF, putL, setD, canSet]), h1]
        simp
      · rw [gapF, if_pos c1, h2]
        rfl
    · by_cases c2 : p.2 = l
      · obtain ⟨fs', g', x', y', h1, h2⟩ := gaps_loop (b := b) (c := c) (T := T) (l := l) ts fs (g + 1) (.d (.int p.1)) (.d (.int p.2)) .d .d (by omega)
        refine ⟨fs', g', x', y', ?_, ?_⟩
        · rw [runFor_cons_nx hset (e2 := [.d T, .d (.int l), .o fs, .d (.int (g + 1)), .d (.int p.1), .d (.int p.2)]) (by simp [m__gaps_L1, c1, c2, sAug, setD, canSet]), h1]
        · rw [gapF, if_neg c1, if_pos c2, h2]
      · obtain ⟨fs', g', x', y', h1, h2⟩ := gaps_loop (b := b) (c := c) (T := T) (l := l) ts fs g (.d (.int p.1)) (.d (.int p.2)) .d .d (by omega)
        refine ⟨fs', g', x', y', ?_, ?_⟩
        · rw [runFor_cons_nx hset (e2 := [.d T, .d (.int l), .o fs, .d (.int g), .d (.int p.1), .d (.int p.2)]) (by simp [m__gaps_L1, c1, c2]), h1]
        · rw [gapF, if_neg c1, if_neg c2, h2]
theorem e__gaps {ts : Tw} (b c : Bool) (l : Int) (hl : ts.length ≤ 40000) : F__gaps [twD b c ts, .int l] = some ((gapF l 0 (ts.map (·.2))).map .int) := by
  obtain ⟨fs', g', x', y', h1, h2⟩ := gaps_loop (b := b) (c := c) (T := twD b c ts) (l := l) ts [] 0 .no .no .no .no (by show 0 + ts.length < 80000; omega)
  have hl2 := gapF_len l (ts.map (·.2)) 0
  rw [h2, List.length_append, List.length_map] at hl2
  have hz : fs'.length + 1 ≤ 100000 := by
    have : [g'].length = 1 := rfl
    omega
  simp [F__gaps, fnL, m__gaps, init, small, setO, setD, canSet, items_tw, h1, addL, hz, h2]
def inB (l m : Int) (g : Int) : Bool := decide (l ≤ g) && decide (g ≤ m)
def gapAll (hs : List Int) (l m : Int) (n : Nat) : Bool := (List.range n).all fun i => (gapF (1 + (i : Nat)) 0 hs).all (inB l m)
theorem min_lt {l : Int} (n : Int) (ns : List Int) : decide (ns.foldl min n < l) = !(n :: ns).all fun g => decide (l ≤ g) := by
  obtain ⟨h1, h2, h3⟩ := fold_min_mem ns n
  by_cases c : ns.foldl min n < l
  · rw [decide_eq_true c]
    symm
    rw [Bool.not_eq_true', List.all_eq_false]
    rcases h1 with h1 | h1
    · exact ⟨n, List.mem_cons_self .., by simp; omega⟩
    · exact ⟨_, List.mem_cons_of_mem _ h1, by simp; omega⟩
  · rw [decide_eq_false c]
    symm
    rw [Bool.not_eq_false', List.all_eq_true]
    intro g hg
    rcases List.mem_cons.mp hg with rfl | hg
    · exact decide_eq_true (by omega)
    · have := h3 g hg
      exact decide_eq_true (by omega)
theorem max_gt {l : Int} (n : Int) (ns : List Int) : decide (l < ns.foldl max n) = !(n :: ns).all fun g => decide (g ≤ l) := by
  obtain ⟨h1, h2, h3⟩ := fold_max_mem ns n
  by_cases c : l < ns.foldl max n
  · rw [decide_eq_true c]
    symm
    rw [Bool.not_eq_true', List.all_eq_false]
    rcases h1 with h1 | h1
    · exact ⟨n, List.mem_cons_self .., by simp; omega⟩
    · exact ⟨_, List.mem_cons_of_mem _ h1, by simp; omega⟩
  · rw [decide_eq_false c]
    symm
    rw [Bool.not_eq_false', List.all_eq_true]
    intro g hg
    rcases List.mem_cons.mp hg with rfl | hg
    · exact decide_eq_true (by omega)
    · have := h3 g hg
      exact decide_eq_true (by omega)
theorem all_and {α : Type} (p q : α → Bool) : ∀ xs : List α, xs.all (fun x => p x && q x) = (xs.all p && xs.all q)
  | [] => rfl
  | x :: xs => by
    simp only [List.all_cons, all_and p q xs]
    cases p x <;> cases q x <;> cases xs.all p <;> rfl
theorem gapped_turn {b c : Bool} {ts : Tw} {l m lv : Int} {x y : Sl} (hl : ts.length ≤ 40000) (fy : Fr y) : ∃ z, m__is_gapped_L1 [.d (twD b c ts), .d (.int l), .d (.int m), .d (.int lv), y] =
    if (gapF lv 0 (ts.map (·.2))).all (inB l m) = true then some (.nx [.d (twD b c ts), .d (.int l), .d (.int m), .d (.int lv), .d z]) else some (.rt (.bool false) [.d (twD b c ts), .d (.int l), .d (.int m), .d (.int lv), .d z]) := by
  refine ⟨.list ((gapF lv 0 (ts.map (·.2))).map .int), ?_⟩
  cases hg : gapF lv 0 (ts.map (·.2)) with
  | nil => exact absurd hg (gapF_ne lv _ 0)
  | cons g gs =>
    have h1 : minD [.list ((g :: gs).map .int)] = some (.int (gs.foldl min g)) := by
      simp only [minD, intsOf_map]
    have h2 : maxD [.list ((g :: gs).map .int)] = some (.int (gs.foldl max g)) := by
      simp only [maxD, intsOf_map]
    have h3 : (g :: gs).all (inB l m) = ((g :: gs).all (fun g => decide (l ≤ g)) && (g :: gs).all fun g => decide (g ≤ m)) := all_and _ _ _
    have h4 := min_lt (l := l) g gs
    have h5 := max_gt (l := m) g gs
    have ek := e__gaps (ts := ts) b c lv hl
    rw [hg] at ek
    rw [h3]
    generalize (g :: gs).all (fun g => decide (l ≤ g)) = A at *
    generalize (g :: gs).all (fun g => decide (g ≤ m)) = C at *
    rcases fy with rfl | ⟨y, rfl⟩ <;> cases A <;> cases C <;> simp only [Bool.not_true, Bool.not_false] at h4 h5 <;> simp [m__is_gapped_L1, ek, setD, canSet, h1, h2, h4, h5, -List.map_cons]
theorem gapped_loop {b c : Bool} {ts : Tw} {l m : Int} (hl : ts.length ≤ 40000) : ∀ (n k : Nat) (x y : Sl), Fr x → Fr y →
    ∃ x' y', Fr x' ∧ Fr y' ∧ runFor (dName 3) m__is_gapped_L1 (rgD (1 + (k : Nat)) n) [.d (twD b c ts), .d (.int l), .d (.int m), x, y] =
    if ((List.range n).all fun i => (gapF (1 + (k : Nat) + (i : Nat)) 0 (ts.map (·.2))).all (inB l m)) = true then some (.nx [.d (twD b c ts), .d (.int l), .d (.int m), x', y']) else some (.rt (.bool false) [.d (twD b c ts), .d (.int l), .d (.int m), x', y'])
  | 0, k, x, y, fx, fy => ⟨x, y, fx, fy, rfl⟩
  | n + 1, k, x, y, fx, fy => by
    have e1 : rgD (1 + (k : Int)) (n + 1) = .int (1 + (k : Int)) :: rgD (1 + ((k + 1 : Nat) : Int)) n := by
      unfold rgD
      rw [List.range_succ_eq_map, List.map_cons, List.map_map]
      congr 1
      apply List.map_congr_left
      intro i _
      show PyData.int (1 + (k : Int) + ((i + 1 : Nat) : Int)) = .int (1 + ((k + 1 : Nat) : Int) + (i : Int))
      congr 1
      omega
    have e2 : ((List.range (n + 1)).all fun i => (gapF (1 + (k : Int) + (i : Nat)) 0 (ts.map (·.2))).all (inB l m)) = ((gapF (1 + (k : Int)) 0 (ts.map (·.2))).all (inB l m) && (List.range n).all fun i => (gapF (1 + ((k + 1 : Nat) : Int) + (i : Nat)) 0 (ts.map (·.2))).all (inB l m)) := by
      rw [List.range_succ_eq_map, List.all_cons, List.all_map]
      congr 1
      congr 1
      funext i
      show (gapF (1 + (k : Int) + ((i + 1 : Nat) : Int)) 0 _).all _ = (gapF (1 + ((k + 1 : Nat) : Int) + (i : Int)) 0 _).all _
      rw [show 1 + (k : Int) + ((i + 1 : Nat) : Int) = 1 + ((k + 1 : Nat) : Int) + (i : Int) by omega]
    have hset : dName 3 (.int (1 + (k : Int))) [.d (twD b c ts), .d (.int l), .d (.int m), x, y] = some [.d (twD b c ts), .d (.int l), .d (.int m), .d (.int (1 + (k : Int))), y] := by
      rcases fx with rfl | ⟨x, rfl⟩ <;> simp [setD, canSet]
    obtain ⟨z, hz⟩ := gapped_turn (b := b) (c := c) (ts := ts) (l := l) (m := m) (lv := 1 + (k : Int)) (x := x) hl fy
    rw [e1, e2]
    cases hA : (gapF (1 + (k : Int)) 0 (ts.map (·.2))).all (inB l m) with
    | true =>
      rw [hA, if_pos rfl] at hz
      obtain ⟨x', y', fx', fy', ih⟩ := gapped_loop hl n (k + 1) (.d (.int (1 + (k : Int)))) (.d z) .d .d
      exact ⟨x', y', fx', fy', by rw [runFor_cons_nx hset hz, ih, Bool.true_and]⟩
    | false =>
      rw [hA, if_neg Bool.false_ne_true] at hz
      exact ⟨.d (.int (1 + (k : Int))), .d z, .d, .d, by rw [runFor_cons_rt hset hz, Bool.false_and, if_neg Bool.false_ne_true]⟩
theorem e__is_gapped {ts : Tw} (b c : Bool) (l m : Int) (hl : ts.length ≤ 40000) (ht : maxOf 0 (ts.map (·.2)) ≤ 900000) (h0 : 0 ≤ maxOf 0 (ts.map (·.2))) : F__is_gapped [twD b c ts, .int l, .int m] = some (.bool (gapAll (ts.map (·.2)) l m (maxOf 0 (ts.map (·.2))).toNat)) := by
  obtain ⟨x', y', _, _, h1⟩ := gapped_loop (b := b) (c := c) (ts := ts) (l := l) (m := m) hl (maxOf 0 (ts.map (·.2))).toNat 0 .no .no .no .no
  have hb : big (maxOf 0 (ts.map (·.2)) + 1) = true := decide_eq_true (by omega)
  have hb1 : big 1 = true := rfl
  have e0 : (maxOf 0 (ts.map (·.2)) + 1 - 1).toNat = (maxOf 0 (ts.map (·.2))).toNat := by omega
  have e1 : (1 : Int) + ((0 : Nat) : Int) = 1 := rfl
  rw [e1] at h1
  have e2 : gapAll (ts.map (·.2)) l m (maxOf 0 (ts.map (·.2))).toNat = ((List.range (maxOf 0 (ts.map (·.2))).toNat).all fun i => (gapF (1 + (i : Nat)) 0 (ts.map (·.2))).all (inB l m)) := rfl
  rw [← e2] at h1
  have ek := e_tallest (ts := ts) b c hl
  generalize maxOf 0 (ts.map (·.2)) = t at *
  generalize gapAll (ts.map (·.2)) l m t.toNat = A at *
  cases A <;> simp [F__is_gapped, fnD, m__is_gapped, init, ek, hb, hb1, e0, h1, retD]
theorem e_check_bounds {l m : Int} (h1 : 1 ≤ l) (h2 : l ≤ m) (h3 : m ≤ 20) : F__check_bounds [.int l, .int m] = some .none := by
  simp [F__check_bounds, fnD, m__check_bounds, init, e_check_number3 (v := l) (l := 1) (g := 20) h1 (by omega), e_check_number3 (v := m) (l := l) (g := 20) h2 h3, retD]
theorem e_is_gapped {ts : Tw} (b c : Bool) {l m : Int} (h : okT none ts) (h1 : 1 ≤ l) (h2 : l ≤ m) (h3 : m ≤ 20) (hl : ts.length ≤ 40000) (ht : maxOf 0 (ts.map (·.2)) ≤ 900000) (h0 : 0 ≤ maxOf 0 (ts.map (·.2))) :
    F_is_gapped [twD b c ts, .int l, .int m] = some (.bool (gapAll (ts.map (·.2)) l m (maxOf 0 (ts.map (·.2))).toNat)) := by
  simp [F_is_gapped, fnD, m_is_gapped, init, e_check_towers b c h, e_check_bounds h1 h2 h3, e__is_gapped b c l m hl ht h0, retD, -List.map_map]
theorem e_check_key (k : Int) : F_check_key [.int k] = some .none := by
  simp [F_check_key, fnD, m_check_key, init, e_is_whole, wholeD, retD]
theorem okT_lt : ∀ {ts : Tw} {p : Option Int}, okT p ts → ∀ {i j : Nat} {a b : Int × Int}, i < j → ts[i]? = some a → ts[j]? = some b → a.1 < b.1
  | ts, p, h, i, 0, a, b, hij, _, _ => by omega
  | ts, p, h, i, j + 1, a, b, hij, h1, h2 => by
    have hlt := (List.getElem?_eq_some_iff.mp h2).1
    have hq : ts[j]? = some ts[j] := List.getElem?_eq_getElem (by omega)
    have n := okT_next h hq h2
    by_cases c : i = j
    · subst c
      rw [h1] at hq
      cases hq
      exact n
    · have := okT_lt h (i := i) (j := j) (by omega) h1 hq
      omega
theorem ix_tw {b c : Bool} {ts : Tw} {i : Nat} {p : Int × Int} (h : ts[i]? = some p) : ixD (twD b c ts) (.int (i : Int)) = some (Tb.prD c p) := by
  unfold twD
  rw [ix_rows]
  exact at_nat (by rw [List.getElem?_map, h]; rfl)
theorem ix_p0 (c : Bool) (p : Int × Int) : ixD (Tb.prD c p) (.int 0) = some (.int p.1) := by
  unfold Tb.prD
  rw [ix_rows, at_0]
theorem ix_p1 (c : Bool) (p : Int × Int) : ixD (Tb.prD c p) (.int 1) = some (.int p.2) := by
  unfold Tb.prD
  rw [ix_rows, at_1]
theorem len_tw (b c : Bool) (ts : Tw) : lenD [twD b c ts] = some (.int (ts.length : Int)) := by
  unfold twD
  rw [len_rows, List.length_map]
theorem divD_pos {i j : Int} (h : 0 < j) (h2 : j.natAbs < 2 ^ 70) : divD (.int i) (.int j) = some (.int (i / j)) := if_pos (wide_div h h2 (by decide) (by decide))
theorem divD_two {i : Int} : divD (.int i) (.int 2) = some (.int (i / 2)) := divD_pos (by decide) (by decide)
theorem cut_to {α : Type} (xs : List α) (n : Nat) : cutL xs none (some (n : Int)) = xs.take n := by
  unfold cutL
  rw [HT.sIx_none, HT.sIx_nat, List.drop_zero, Nat.sub_zero]
  by_cases c : n ≤ xs.length
  · rw [show min n xs.length = n by omega]
  · rw [show min n xs.length = xs.length by omega, List.take_length, List.take_of_length_le (by omega)]
theorem cut_from {α : Type} (xs : List α) (n : Nat) : cutL xs (some (n : Int)) none = xs.drop n := by
  unfold cutL
  rw [HT.sIx_none, HT.sIx_nat]
  by_cases c : n ≤ xs.length
  · rw [show min n xs.length = n by omega, List.take_of_length_le (by rw [List.length_drop]; exact Nat.le_refl _)]
  · rw [show min n xs.length = xs.length by omega, List.drop_of_length_le (Nat.le_refl _), List.drop_of_length_le (by omega), List.take_nil]
theorem seq_nx {A C : Ds} {e e1 : En} (h : A e = some (.nx e1)) : sSeq A C e = C e1 := by
  unfold sSeq
  rw [h]
theorem mulD_left {i j : Int} (h1 : -(2 ^ 64) < i) (h2 : i < 2 ^ 64) : mulD (.int i) (.int j) = some (.int (i * j)) := if_pos (.inl (.inl ⟨h1, h2⟩))
theorem mulD_right {i j : Int} (h1 : -(2 ^ 64) < j) (h2 : j < 2 ^ 64) : mulD (.int i) (.int j) = some (.int (i * j)) := if_pos (.inl (.inr ⟨h1, h2⟩))
theorem modD_pos {i j : Int} (h : 0 < j) : modD (.int i) (.int j) = some (.int (i % j)) := if_pos h
theorem powD_ok {i j : Int} (h : CPow i j) : powD (.int i) (.int j) = some (.int (i ^ j.toNat)) := if_pos h
theorem intD_int (i : Int) : intD [.int i] = some (.int i) := rfl
theorem intD_bool (b : Bool) : intD [.bool b] = some (.int (if b then 1 else 0)) := rfl
theorem mod_in {x m : Int} (h : 0 < m) : 0 ≤ x % m ∧ x % m < m := ⟨Int.emod_nonneg x (by omega), Int.emod_lt_of_pos x h⟩
def srcT (t : Int × Int × Int) : List PyData := [.int t.1, .int t.2.1, .int t.2.2]
/-- i keys are less than k -/
structure Pl (ts : Tw) (k : Int) (i : Nat) : Prop where
  le : i ≤ ts.length
  lt : ∀ j q, ts[j]? = some q → (q.1 < k ↔ j < i)
theorem pl_ex (k : Int) : ∀ {ts : Tw} {p : Option Int}, okT p ts → ∃ i, Pl ts k i
  | [], _, _ => ⟨0, Nat.le_refl _, fun j q h => by simp at h⟩
  | q :: ts, p, h => by
    by_cases c : q.1 < k
    · obtain ⟨i, hi⟩ := pl_ex k h.2.2
      refine ⟨i + 1, Nat.succ_le_succ hi.le, fun j z hz => ?_⟩
      cases j with
      | zero =>
        simp at hz
        subst hz
        simp [c]
      | succ j =>
        rw [List.getElem?_cons_succ] at hz
        rw [hi.lt j z hz]
        omega
    · refine ⟨0, Nat.zero_le _, fun j z hz => ?_⟩
      cases j with
      | zero =>
        simp at hz
        subst hz
        simp [c]
      | succ j =>
        have := okT_lt h (i := 0) (j := j + 1) (by omega) rfl hz
        constructor
        · intro q
          omega
        · intro q
          omega
theorem e_count_belowP {ts : Tw} (b c : Bool) {k : Int} {i : Nat} (hp : Pl ts k i) : F_count_below [twD b c ts, .int k] = some (.int (i : Int)) := by
  have hle := hp.le
  obtain ⟨m, e0, e1, ⟨lo, hg, x4, f4, rfl, p1, p2, p3, p4⟩, hc, hw⟩ := whileN_inv (c := dTest (dOp ltD (dVar 2) (dVar 3))) (b := m_count_below_L1) (fun n e => ∃ (lo hg : Nat) (x4 : Sl), Fr x4 ∧ e = [.d (twD b c ts), .d (.int k), .d (.int (lo : Int)), .d (.int (hg : Int)), x4] ∧ lo ≤ i ∧ i ≤ hg ∧ hg ≤ ts.length ∧ n = hg - lo)
    ts.length [.d (twD b c ts), .d (.int k), .d (.int 0), .d (.int (ts.length : Int)), .no] ⟨0, ts.length, _, .no, rfl, Nat.zero_le _, hle, Nat.le_refl _, rfl⟩ (by
    rintro n e ⟨lo, hg, x4, f4, rfl, p1, p2, p3, p4⟩
    by_cases hlt : lo < hg
    · right
      have hm : ((lo : Int) + (hg : Int)) / 2 = (((lo + hg) / 2 : Nat) : Int) := by omega
      have hml : (lo + hg) / 2 < ts.length := by omega
      obtain ⟨pm, hq⟩ : ∃ pm, ts[(lo + hg) / 2]? = some pm := ⟨_, List.getElem?_eq_getElem hml⟩
      have k1 := ix_tw (b := b) (c := c) hq
      have k2 := ix_p0 c pm
      have hltI : (lo : Int) < (hg : Int) := by omega
      have hk := hp.lt _ pm hq
      by_cases cm : pm.1 < k
      · have mi := hk.mp cm
        refine ⟨[.d (twD b c ts), .d (.int k), .d (.int (lo : Int)), .d (.int (hg : Int)), x4], [.d (twD b c ts), .d (.int k), .d (.int (((lo + hg) / 2 + 1 : Nat) : Int)), .d (.int (hg : Int)), .d (.int (((lo + hg) / 2 : Nat) : Int))], hg - ((lo + hg) / 2 + 1), ?_, .inl ?_, by omega, (lo + hg) / 2 + 1, hg, _, .d, rfl, by omega, p2, p3, rfl⟩
        · simp [hltI]
        · have e1 : (((lo + hg) / 2 : Nat) : Int) + 1 = (((lo + hg) / 2 + 1 : Nat) : Int) := by omega
          generalize ((lo + hg) / 2 + 1 : Nat) = m1 at *
          generalize ((lo + hg) / 2 : Nat) = m0 at *
          rcases f4 with rfl | ⟨x4, rfl⟩ <;> simp [m_count_below_L1, divD_two, hm, setD, canSet, k1, k2, cm, e1]
      · have mi : i ≤ (lo + hg) / 2 := by
          by_cases q : (lo + hg) / 2 < i
          · exact absurd (hk.mpr q) cm
          · omega
        refine ⟨[.d (twD b c ts), .d (.int k), .d (.int (lo : Int)), .d (.int (hg : Int)), x4], [.d (twD b c ts), .d (.int k), .d (.int (lo : Int)), .d (.int (((lo + hg) / 2 : Nat) : Int)), .d (.int (((lo + hg) / 2 : Nat) : Int))], (lo + hg) / 2 - lo, ?_, .inl ?_, by omega, lo, (lo + hg) / 2, _, .d, rfl, p1, mi, by omega, rfl⟩
        · simp [hltI]
        · generalize ((lo + hg) / 2 : Nat) = m0 at *
          rcases f4 with rfl | ⟨x4, rfl⟩ <;> simp [m_count_below_L1, divD_two, hm, setD, canSet, k1, k2, cm]
    · left
      have hltI : ¬ (lo : Int) < (hg : Int) := by omega
      exact ⟨[.d (twD b c ts), .d (.int k), .d (.int (lo : Int)), .d (.int (hg : Int)), x4], by simp [hltI]⟩)
  have hend : ¬ (lo : Int) < (hg : Int) ∧ e1 = [.d (twD b c ts), .d (.int k), .d (.int (lo : Int)), .d (.int (hg : Int)), x4] := by
    by_cases q : (lo : Int) < (hg : Int)
    · simp [q] at hc
    · simp [q] at hc
      exact ⟨q, hc.symm⟩
  obtain ⟨hend, rfl⟩ := hend
  have : lo = i := by omega
  subst this
  simp [F_count_below, fnD, m_count_below, init, setD, canSet, len_tw, hw, retD]
def twC (C : Int × Int → Option PyData) (d : PyData) : Option PyData := match itemsOf d with
  | some [.int a, .int h] => C (a, h)
  | _ => none
theorem twC_pr (C : Int × Int → Option PyData) (c : Bool) (q : Int × Int) : twC C (Tb.prD c q) = C q := by
  unfold twC
  rw [items_pr]
theorem tw_filterMap (C : Int × Int → Option PyData) (c : Bool) (ts : Tw) : (ts.map (Tb.prD c)).filterMap (twC C) = ts.filterMap C := by
  rw [List.filterMap_map]
  congr 1
  funext q
  exact twC_pr C c q
/-- a comprehension over towers -/
theorem lc_tw {it : Dn (List PyData)} {g : PyData → En → Option En} {test : Dn Bool} {f : Dn PyData} {e e0 w : En} {vs : List Nat} {c : Bool} {ts : Tw} (C : Int × Int → Option PyData) (hi : it e0 = some (ts.map (Tb.prD c), e)) (hf : vsFree e vs = true) (hw : wipeE e vs = w) (hr : restE e w vs = e) (hl : ts.length ≤ 40000)
    (ht : ∀ q : Int × Int, ∃ e1 e2, g (Tb.prD c q) w = some e1 ∧ (match C q with
      | none => test e1 = some (false, e2) ∧ wipeE e2 vs = w
      | some y => ∃ e3, test e1 = some (true, e2) ∧ f e2 = some (y, e3) ∧ wipeE e3 vs = w)) :
    dLc it g test f vs e0 = some (ts.filterMap C, e) := by
  rw [← tw_filterMap C c]
  refine dLc_map _ hi hf (by rw [List.length_map]; exact hl) (by rw [hw]; exact hr) fun d hd => ?_
  obtain ⟨q, _, rfl⟩ := List.mem_map.mp hd
  rw [twC_pr, hw]
  exact ht q
/-- the same, with a test of the pair and an element of each -/
theorem lc_twP {it : Dn (List PyData)} {g : PyData → En → Option En} {test : Dn Bool} {f : Dn PyData} {e e0 w : En} {vs : List Nat} {c : Bool} {ts : Tw} (P : Int × Int → Bool) (y : Int × Int → PyData) (hi : it e0 = some (ts.map (Tb.prD c), e)) (hf : vsFree e vs = true) (hw : wipeE e vs = w) (hr : restE e w vs = e) (hl : ts.length ≤ 40000)
    (ht : ∀ q : Int × Int, ∃ e1, g (Tb.prD c q) w = some e1 ∧ test e1 = some (P q, e1) ∧ f e1 = some (y q, e1) ∧ wipeE e1 vs = w) :
    dLc it g test f vs e0 = some ((ts.filter P).map y, e) := by
  have e1 : (ts.filter P).map y = ts.filterMap fun q => if P q = true then some (y q) else none := by
    clear hi hf hr hl ht
    induction ts with
    | nil => rfl
    | cons q ts ih =>
      rw [List.filterMap_cons, List.filter_cons]
      by_cases cq : P q = true
      · rw [if_pos cq, if_pos cq, List.map_cons, ih]
      · rw [if_neg cq, if_neg cq, ih]
  rw [e1]
  refine lc_tw _ hi hf hw hr hl fun q => ?_
  obtain ⟨e1, h1, h2, h3, h4⟩ := ht q
  refine ⟨e1, e1, h1, ?_⟩
  cases hp : P q with
  | true =>
    rw [hp] at h2
    rw [if_pos rfl]
    exact ⟨e1, h2, h3, h4⟩
  | false =>
    rw [hp] at h2
    rw [if_neg Bool.false_ne_true]
    exact ⟨h2, h4⟩
theorem filter_all {α : Type} (xs : List α) : xs.filter (fun _ => true) = xs := List.filter_eq_self.mpr fun _ _ => rfl
theorem prF (q : Int × Int) : PyData.tuple [.int q.1, .int q.2] = Tb.prD false q := rfl
theorem e_as_tuples (b c : Bool) (ts : Tw) (hl : ts.length ≤ 40000) : F_as_tuples [twD b c ts] = some (twD false false ts) := by
  have h : dLc (dItems (dVar 0)) (dRow 2 (dGs (dName 1) (dGs (dName 2) dNil))) (dK true) (dTup (dCons (dVar 1) (dCons (dVar 2) (dK [])))) [1, 2] [.d (twD b c ts), .no, .no] =
      some ((ts.filter fun _ => true).map (Tb.prD false), [.d (twD b c ts), .no, .no]) :=
    lc_twP (w := [.d (twD b c ts), .no, .no]) (c := c) (fun _ => true) (Tb.prD false) (by simp [items_tw]) rfl rfl rfl hl fun q => ⟨[.d (twD b c ts), .d (.int q.1), .d (.int q.2)], by simp [items_pr, setD, canSet], by simp, by simp [small, prF], rfl⟩
  rw [filter_all] at h
  have h2 : tupD [.list (ts.map (Tb.prD false))] = some (twD false false ts) := rfl
  generalize ts.map (Tb.prD false) = X at *
  generalize twD b c ts = T at *
  simp [F_as_tuples, fnD, m_as_tuples, init, dCb, h, h2, retD]
theorem sl_upto (b c : Bool) (ts : Tw) (i : Nat) : slD (twD b c ts) none (some (i : Int)) = some (twD b c (ts.take i)) := by
  cases b
  · show some (PyData.tuple (cutL _ none (some (i : Int)))) = _
    rw [cut_to, ← List.map_take]
    rfl
  · show some (PyData.list (cutL _ none (some (i : Int)))) = _
    rw [cut_to, ← List.map_take]
    rfl
theorem sl_from (b c : Bool) (ts : Tw) (i : Nat) : slD (twD b c ts) (some (i : Int)) none = some (twD b c (ts.drop i)) := by
  cases b
  · show some (PyData.tuple (cutL _ (some (i : Int)) none)) = _
    rw [cut_from, ← List.map_drop]
    rfl
  · show some (PyData.list (cutL _ (some (i : Int)) none)) = _
    rw [cut_from, ← List.map_drop]
    rfl
theorem e_source (n : Int) : ∃ a b c : Int, F__law_source [.int n] = some [.int a, .int b, .int c] := by
  have key : ∀ k : Int, ∃ a b c : Int, sRetL (dLst (dCons (dOp mulD (dVar 0) (dCb intD (dCons (dOp geD (dVar 0) (dOp powD (dK (.int 10)) (dK (.int 18)))) (dK [])))) (dCons (dOp modD (dCb intD (dCons (dVar 0) (dK []))) (dK (.int 2147483647))) (dCons (dK (.int 0)) (dK []))))) [.d (.int k)] = some (.rl [.int a, .int b, .int c] [.d (.int k)]) := fun k => by
    have hp : powD (.int 10) (.int 18) = some (.int ((10 : Int) ^ (18 : Int).toNat)) := powD_ok ⟨by decide, by decide, by decide⟩
    have hm : ∀ b : Bool, mulD (.int k) (.int (if b then 1 else 0)) = some (.int (k * if b then 1 else 0)) := fun b => mulD_right (by cases b <;> decide) (by cases b <;> decide)
    have hd : modD (.int k) (.int 2147483647) = some (.int (k % 2147483647)) := modD_pos (by decide)
    refine ⟨k * (if decide ((10 : Int) ^ (18 : Int).toNat ≤ k) = true then 1 else 0), k % 2147483647, 0, ?_⟩
    simp only [sRetL_e, dLst_e, dBind_e, dCons_e, dOp_e, dVar_e, dK_e, dLift_e, List.getElem?_cons_zero, hp, geD_int, intD_bool, intD_int, hm, hd, small, List.length_cons, List.length_nil, Option.map_some]
    rfl
  obtain ⟨a, b, c, h⟩ := key (if 0 ≤ n then n else 0 - 3 * n - 1)
  refine ⟨a, b, c, ?_⟩
  have hm : mulD (.int 3) (.int n) = some (.int (3 * n)) := mulD_left (by decide) (by decide)
  have h1 : sAsg (dIf (dTest (dOp geD (dVar 0) (dK (.int 0)))) (dVar 0) (dOp subD (dOp subD (dK (.int 0)) (dOp mulD (dK (.int 3)) (dVar 0))) (dK (.int 1)))) (dName 0) [.d (.int n)] = some (.nx [.d (.int (if 0 ≤ n then n else 0 - 3 * n - 1))]) := by
    by_cases c : 0 ≤ n
    · simp [c, setD, canSet]
    · simp [c, hm, setD, canSet]
  show fnL 0 m__law_source [.int n] = _
  unfold fnL m__law_source
  rw [show init [.int n] 0 = [.d (.int n)] from rfl, sSeq_e, h1]
  simp only [h]
theorem e_next (a b c : Int) {m : Int} (h0 : 0 < m) (h1 : m ≤ 10 ^ 20) : ∃ r a' b' c' : Int, F__law_next [.int a, .int b, .int c] [.int m] = some (.int r, [.int a', .int b', .int c']) ∧ 0 ≤ r ∧ r < m := by
  have m70 : m.natAbs < 2 ^ 70 := by
    have : (10 : Int) ^ 20 < 2 ^ 70 := by decide
    omega
  have i0 : ∀ x : Int, ixN 3 0 = some 0 := fun _ => rfl
  have k0 : ∀ x y z : PyData, atI [x, y, z] 0 = some x := fun _ _ _ => at_0 ..
  have k1 : ∀ x y z : PyData, atI [x, y, z] 1 = some y := fun _ _ _ => at_1 ..
  have k2 : ∀ x y z : PyData, atI [x, y, z] 2 = some z := fun _ _ _ => at_2 ..
  have s0 : ixN 3 0 = some 0 := rfl
  have s2 : ixN 3 2 = some 2 := rfl
  by_cases ca : 0 < a
  · refine ⟨a % m, a / m, b, c, ?_, (mod_in h0).1, (mod_in h0).2⟩
    simp [F__law_next, fnM, m__law_next, init, dIxV, ownL, k0, ca, intD_int, modD_pos h0, divD_pos h0 m70, setD, canSet, sSetIx, s0, putL]
  · have p0 : (0 : Int) < 2147483647 := by decide
    have p1 : (0 : Int) < 2147483399 := by decide
    have b4 := mod_in (x := b + 104729 * (c + 1) + 7919) p0
    have h4 : mulD (.int 104729) (.int (c + 1)) = some (.int (104729 * (c + 1))) := mulD_left (by decide) (by decide)
    have hm4 : modD (.int (b + 104729 * (c + 1) + 7919)) (.int 2147483647) = some (.int ((b + 104729 * (c + 1) + 7919) % 2147483647)) := modD_pos p0
    generalize (b + 104729 * (c + 1) + 7919) % 2147483647 = n4 at b4 hm4
    have h5 : mulD (.int n4) (.int 48271) = some (.int (n4 * 48271)) := mulD_right (by decide) (by decide)
    have b5 := mod_in (x := n4 * 48271) p0
    have hm5 : modD (.int (n4 * 48271)) (.int 2147483647) = some (.int (n4 * 48271 % 2147483647)) := modD_pos p0
    generalize n4 * 48271 % 2147483647 = n5 at b5 hm5
    have bg : (2147483647 : Int) < 2 ^ 64 := by decide
    have h6 : mulD (.int n5) (.int (n5 / 1009 + 69621)) = some (.int (n5 * (n5 / 1009 + 69621))) := mulD_left (by omega) (by omega)
    have d6 : divD (.int n5) (.int 1009) = some (.int (n5 / 1009)) := divD_pos (by decide) (by decide)
    have b6 := mod_in (x := n5 * (n5 / 1009 + 69621)) p0
    have hm6 : modD (.int (n5 * (n5 / 1009 + 69621))) (.int 2147483647) = some (.int (n5 * (n5 / 1009 + 69621) % 2147483647)) := modD_pos p0
    generalize n5 * (n5 / 1009 + 69621) % 2147483647 = n6 at b6 hm6
    have h7 : mulD (.int n6) (.int (n6 / 2003 + 40692)) = some (.int (n6 * (n6 / 2003 + 40692))) := mulD_left (by omega) (by omega)
    have d7 : divD (.int n6) (.int 2003) = some (.int (n6 / 2003)) := divD_pos (by decide) (by decide)
    have hm7 : modD (.int (n6 * (n6 / 2003 + 40692))) (.int 2147483399) = some (.int (n6 * (n6 / 2003 + 40692) % 2147483399)) := modD_pos p1
    generalize n6 * (n6 / 2003 + 40692) % 2147483399 = n7 at hm7
    have d8 : divD (.int n7) (.int 7) = some (.int (n7 / 7)) := divD_pos (by decide) (by decide)
    have hm8 : modD (.int (n7 / 7)) (.int m) = some (.int (n7 / 7 % m)) := modD_pos h0
    refine ⟨n7 / 7 % m, a, b, c + 1, ?_, (mod_in h0).1, (mod_in h0).2⟩
    simp [F__law_next, fnM, m__law_next, init, dIxV, ownL, k0, k1, k2, ca, intD_int, setD, canSet, sSetIx, s0, s2, putL, h4, hm4, h5, hm5, h6, d6, hm6, h7, d7, hm7, d8, hm8]
theorem gapF_sep {j L : Int} (h : j < L) (rest : List Int) : ∀ (w : List Int) (g : Int), gapF j g (w ++ L :: rest) = gapF j g w ++ gapF j 0 rest
  | [], g => by
    show gapF j g (L :: rest) = [g] ++ _
    rw [gapF, if_pos h]
    rfl
  | a :: w, g => by
    rw [List.cons_append, gapF, gapF]
    by_cases c : j < a
    · rw [if_pos c, if_pos c, gapF_sep h rest w 0]
      rfl
    · rw [if_neg c, if_neg c]
      by_cases c2 : a = j
      · rw [if_pos c2, if_pos c2, gapF_sep h rest w (g + 1)]
      · rw [if_neg c2, if_neg c2, gapF_sep h rest w g]
theorem gapF_top {L k : Int} (xs : List Int) : ∀ (hs : List Int) (g : Int), (∀ h ∈ hs, h ≤ L) → gapF L g hs = [k] → gapF L g (hs ++ xs) = gapF L k xs
  | [], g, _, e => by
    have : g = k := by simpa [gapF] using e
    rw [this]
    rfl
  | a :: hs, g, hh, e => by
    have ha := hh a (List.mem_cons_self ..)
    have ht : ∀ h ∈ hs, h ≤ L := fun h hm => hh h (List.mem_cons_of_mem _ hm)
    rw [gapF, if_neg (by omega)] at e
    rw [List.cons_append, gapF, if_neg (by omega)]
    by_cases c2 : a = L
    · rw [if_pos c2] at e ⊢
      exact gapF_top xs hs _ ht e
    · rw [if_neg c2] at e ⊢
      exact gapF_top xs hs _ ht e
theorem e_nextT (t : Int × Int × Int) {m : Int} (h0 : 0 < m) (h1 : m ≤ 10 ^ 20) : ∃ r t', F__law_next (srcT t) [.int m] = some (.int r, srcT t') ∧ 0 ≤ r ∧ r < m := by
  obtain ⟨r, a, b, c, h⟩ := e_next t.1 t.2.1 t.2.2 h0 h1
  exact ⟨r, (a, b, c), h⟩
theorem addD_ints {xs ys : List Int} (h : xs.length + ys.length ≤ 100000) : addD (.list (xs.map .int)) (.list (ys.map .int)) = some (.list ((xs ++ ys).map .int)) := by
  show (if (xs.map PyData.int).length + (ys.map PyData.int).length ≤ 100000 then _ else none) = _
  rw [if_pos (by rw [List.length_map, List.length_map]; omega), List.map_append]
theorem cons_dK {x : PyData} {xs : List PyData} : dCons (dK x) (dK xs) = dK (x :: xs) := by
  funext e
  rfl
theorem fz_dK {xs : List PyData} : dFz (dK xs) = dK (.list xs) := by
  funext e
  rfl
theorem tup_dK {xs : List PyData} (h : small xs = true) : dTup (dK xs) = dK (.tuple xs) := by
  funext e
  simp [h]
theorem lst_dK {xs : List PyData} (h : small xs = true) : dLst (dK xs) = dK xs := by
  funext e
  simp [h]
theorem fold_max0 {hs : List Int} (h : ∀ x ∈ hs, 1 ≤ x) : hs.foldl max 0 = maxOf 0 hs := by
  cases hs with
  | nil => rfl
  | cons a r =>
    have ha := h a (List.mem_cons_self ..)
    show r.foldl max (max 0 a) = r.foldl max a
    rw [show max 0 a = a by omega]
theorem maxOf_facts {hs : List Int} (h : ∀ x ∈ hs, 1 ≤ x) : 0 ≤ maxOf 0 hs ∧ ∀ x ∈ hs, x ≤ maxOf 0 hs := by
  rw [← fold_max0 h]
  obtain ⟨_, h2, h3⟩ := fold_max_mem hs 0
  exact ⟨h2, h3⟩
theorem gap_above {l : Int} : ∀ {hs : List Int} {g : Int}, (∀ h ∈ hs, h < l) → gapF l g hs = [g]
  | [], _, _ => rfl
  | h :: hs, g, hh => by
    have h1 := hh h (List.mem_cons_self ..)
    rw [gapF, if_neg (by omega), if_neg (by omega)]
    exact gap_above fun x hx => hh x (List.mem_cons_of_mem _ hx)
theorem maxOf_le {hs : List Int} {m : Int} (h0 : 0 ≤ m) (h : ∀ x ∈ hs, x ≤ m) : maxOf 0 hs ≤ m := by
  cases hs with
  | nil => exact h0
  | cons a r =>
    obtain ⟨h1, _, _⟩ := fold_max_mem r a
    show r.foldl max a ≤ m
    rcases h1 with h1 | h1
    · rw [h1]
      exact h a (List.mem_cons_self ..)
    · exact h _ (List.mem_cons_of_mem _ h1)
end Tk
end

section
set_option Elab.async false
set_option linter.all false
set_option maxRecDepth 100000
set_option maxHeartbeats 1000000
/-! k67: one pass, as the program does it. -/
namespace Tk
open PySem PySem.Spec PyProof.Rows L2 Evl Tb Fd
def posE (l : Int) : Int → List Int → List Int
  | _, [] => []
  | k, h :: hs => if h = l then k :: posE l (k + 1) hs else posE l (k + 1) hs
def posG (l : Int) : Int → List Int → List Int
  | _, [] => []
  | k, h :: hs => if l < h then k :: posG l (k + 1) hs else posG l (k + 1) hs
def eqAt (hs : List Int) (l : Int) (d : PyData) : Option PyData := match d with
  | .int j => if hs.getD j.toNat 0 = l then some d else none
  | _ => none
theorem rg_succ (lo : Int) (n : Nat) : rgD lo (n + 1) = .int lo :: rgD (lo + 1) n := by
  unfold rgD
  rw [List.range_succ_eq_map, List.map_cons, List.map_map]
  congr 1
  · congr 1
    omega
  · apply List.map_congr_left
    intro i _
    show PyData.int (lo + ((i + 1 : Nat) : Int)) = .int (lo + 1 + (i : Int))
    congr 1
    omega
theorem filt_gap (l : Int) (Y : List Int) : ∀ (S X : List Int), (rgD (X.length : Int) S.length).filterMap (eqAt (X ++ S ++ Y) l) = (posE l (X.length : Int) S).map .int
  | [], X => rfl
  | h :: S, X => by
    rw [List.length_cons, rg_succ, List.filterMap_cons]
    have e1 : eqAt (X ++ h :: S ++ Y) l (.int (X.length : Int)) = if h = l then some (.int (X.length : Int)) else none := by
      have : (X ++ h :: S ++ Y).getD ((X.length : Int)).toNat 0 = h := by
        rw [Int.toNat_natCast]
        simp
      unfold eqAt
      simp only [this]
    have ih := filt_gap l Y S (X ++ [h])
    have e2 : ((X ++ [h]).length : Int) = X.length + 1 := by simp
    have e3 : X ++ [h] ++ S ++ Y = X ++ h :: S ++ Y := by simp
    rw [e2, e3] at ih
    rw [e1, posE]
    by_cases c : h = l
    · rw [if_pos c, if_pos c]
      simp only [ih, List.map_cons]
    · rw [if_neg c, if_neg c]
      simp only [ih]
abbrev hL (hs : List Int) : PyData := .list (hs.map .int)
theorem ix_hL {hs : List Int} {i : Nat} {h : Int} (e : hs[i]? = some h) : ixD (hL hs) (.int (i : Int)) = some (.int h) := by
  show atI (hs.map PyData.int) (i : Int) = _
  exact at_nat (by rw [List.getElem?_map, e]; rfl)
theorem e_gap {l lo hi : Int} {X S Y hs : List Int} (hh : hs = X ++ S ++ Y) (hlo : lo = X.length - 1) (hhi : hi = X.length + S.length) (hl : hs.length ≤ 3000) :
    F__gap_between [hL hs, .int lo, .int hi, .int l] = some ((posE l X.length S).map .int) := by
  subst hh hlo hhi
  have tl : (X ++ S ++ Y).length = X.length + S.length + Y.length := by rw [List.length_append, List.length_append]
  have h : dLc (dRg2 (dCons (dOp addD (dVar 1) (dK (.int 1))) (dCons (dVar 2) (dK [])))) (dName 4) (dTest (dOp eqD (dOp ixD (dVar 0) (dVar 4)) (dVar 3))) (dVar 4) [4] [.d (hL (X ++ S ++ Y)), .d (.int ((X.length : Int) - 1)), .d (.int ((X.length : Int) + S.length)), .d (.int l), .no] =
      some ((rgD (X.length : Int) S.length).filterMap (eqAt (X ++ S ++ Y) l), [.d (hL (X ++ S ++ Y)), .d (.int ((X.length : Int) - 1)), .d (.int ((X.length : Int) + S.length)), .d (.int l), .no]) := by
    have b1 : big ((X.length : Int) - 1 + 1) = true := decide_eq_true (by omega)
    have b2 : big ((X.length : Int) + S.length) = true := decide_eq_true (by omega)
    have e1 : ((X.length : Int) + S.length - (X.length - 1 + 1)).toNat = S.length := by omega
    have e2 : (X.length : Int) - 1 + 1 = X.length := by omega
    refine dLc_map _ ?_ rfl (by unfold rgD; rw [List.length_map, List.length_range]; omega) rfl fun d hd => ?_
    · simp only [dRg2_e, dBind_e, dCons_e, dOp_e, dVar_e, dK_e, dLift_e, List.getElem?_cons_succ, List.getElem?_cons_zero, addD_int, b1, b2, Bool.and_self, if_true, e1]
      rw [e2]
    · unfold rgD at hd
      obtain ⟨i, hi, rfl⟩ := List.mem_map.mp hd
      have hi2 := List.mem_range.mp hi
      have hlt : X.length + i < (X ++ S ++ Y).length := by omega
      have e3 : (X.length : Int) + (i : Int) = ((X.length + i : Nat) : Int) := by omega
      rw [e3]
      have hg := ix_hL (List.getElem?_eq_getElem hlt)
      have hc : eqAt (X ++ S ++ Y) l (.int ((X.length + i : Nat) : Int)) = if (X ++ S ++ Y)[X.length + i] = l then some (.int ((X.length + i : Nat) : Int)) else none := by
        unfold eqAt
        simp only [Int.toNat_natCast, List.getD_eq_getElem?_getD, List.getElem?_eq_getElem hlt, Option.getD_some]
      rw [hc]
      generalize (X ++ S ++ Y)[X.length + i] = z at *
      generalize hL (X ++ S ++ Y) = HL at *
      generalize ((X.length + i : Nat) : Int) = j at *
      refine ⟨[.d HL, .d (.int ((X.length : Int) - 1)), .d (.int ((X.length : Int) + S.length)), .d (.int l), .d (.int j)], [.d HL, .d (.int ((X.length : Int) - 1)), .d (.int ((X.length : Int) + S.length)), .d (.int l), .d (.int j)], by simp [wipeE, setD, canSet], ?_⟩
      by_cases c : z = l
      · rw [if_pos c]
        exact ⟨[.d HL, .d (.int ((X.length : Int) - 1)), .d (.int ((X.length : Int) + S.length)), .d (.int l), .d (.int j)], by simp [hg, c], by simp, by simp [wipeE]⟩
      · rw [if_neg c]
        exact ⟨by simp [hg, c], by simp [wipeE]⟩
  rw [filt_gap] at h
  generalize hL (X ++ S ++ Y) = HL at *
  generalize (posE l (X.length : Int) S).map PyData.int = R at *
  simp [F__gap_between, fnL, m__gap_between, init, h]
/-! ### where gaps end -/
theorem posG_app (l : Int) : ∀ (A B : List Int) (k : Int), posG l k (A ++ B) = posG l k A ++ posG l (k + A.length) B
  | [], B, k => by simp [posG]
  | a :: A, B, k => by
    have e : k + 1 + (A.length : Int) = k + ((a :: A).length : Int) := by rw [List.length_cons]; omega
    rw [List.cons_append, posG, posG, posG_app l A B (k + 1), e]
    split <;> rfl
theorem posG_low {l : Int} : ∀ {S : List Int} {k : Int}, (∀ h ∈ S, h ≤ l) → posG l k S = []
  | [], _, _ => rfl
  | h :: S, k, hh => by
    have := hh h List.mem_cons_self
    rw [posG, if_neg (by omega), posG_low fun z hz => hh z (List.mem_cons_of_mem _ hz)]
def endsL (l : Int) (hs : List Int) : List Int := -1 :: (posG l 0 hs ++ [(hs.length : Int)])
theorem good_ends {l : Int} {A : List Int} (g : Good l A) : ∃ E, (-1 :: posG l 0 A) = E ++ [(A.length : Int) - 1] ∧ E.length = (posG l 0 A).length := by
  cases g with
  | nil => exact ⟨[], rfl, rfl⟩
  | @snoc A S x g1 h1 h2 h3 =>
    refine ⟨-1 :: posG l 0 A, ?_, ?_⟩
    · rw [posG_app, posG_app, posG_low h1, posG, if_pos h3]
      simp [posG]
      omega
    · rw [posG_app, posG_app, posG_low h1, posG, if_pos h3]
      simp [posG]
theorem ends_at {l : Int} {A S R : List Int} (g : Good l A) (hS : ∀ h ∈ S, h ≤ l) (hR : R = [] ∨ ∃ y Y, R = y :: Y ∧ l < y) : ∃ E Z, endsL l (A ++ S ++ R) = E ++ ((A.length : Int) - 1) :: ((A.length : Int) + S.length) :: Z ∧ E.length = (posG l 0 A).length ∧ (-1 :: posG l 0 A) = E ++ [(A.length : Int) - 1] ∧ (R = [] → Z = []) ∧
    ∀ y Y, R = y :: Y → Z = posG l ((A.length : Int) + S.length + 1) Y ++ [((A ++ S ++ R).length : Int)] := by
  obtain ⟨E, h1, h2⟩ := good_ends g
  have e0 : endsL l (A ++ S ++ R) = E ++ ((A.length : Int) - 1) :: (posG l ((A.length : Int) + S.length) R ++ [((A ++ S ++ R).length : Int)]) := by
    unfold endsL
    rw [posG_app, posG_app, posG_low (k := 0 + (A.length : Int)) hS, List.append_nil, List.append_assoc, ← List.cons_append, h1]
    have : (0 : Int) + ((A ++ S).length : Int) = A.length + S.length := by simp
    rw [this]
    simp
  rcases hR with rfl | ⟨y, Y, rfl, hy⟩
  · exact ⟨E, [], by rw [e0]; simp [posG], h2, h1, fun _ => rfl, fun y Y h => nomatch h⟩
  · refine ⟨E, posG l ((A.length : Int) + S.length + 1) Y ++ [((A ++ S ++ y :: Y).length : Int)], ?_, h2, h1, fun h => (by cases h), fun y' Y' h => ?_⟩
    · rw [e0, posG, if_pos hy]
      rfl
    · cases h
      rfl
theorem tail_at {l k : Int} {T C : List Int} (hT : ∀ h ∈ T, h ≤ l) (hC : C = [] ∨ ∃ c C', C = c :: C' ∧ l < c) (n : Int) (hn : n = k + T.length + C.length) : ∃ Z, posG l k (T ++ C) ++ [n] = (k + T.length) :: Z := by
  subst hn
  rw [posG_app, posG_low hT]
  rcases hC with rfl | ⟨c, C', rfl, h⟩
  · exact ⟨[], by simp [posG]⟩
  · rw [posG, if_pos h]
    exact ⟨_, rfl⟩
/-! ### raising -/
theorem posE_app (l : Int) : ∀ (A B : List Int) (k : Int), posE l k (A ++ B) = posE l k A ++ posE l (k + A.length) B
  | [], B, k => by simp [posE]
  | a :: A, B, k => by
    have e : k + 1 + (A.length : Int) = k + ((a :: A).length : Int) := by rw [List.length_cons]; omega
    rw [List.cons_append, posE, posE, posE_app l A B (k + 1), e]
    split <;> rfl
theorem posE_no {l : Int} : ∀ {S : List Int} {k : Int}, l ∉ S → posE l k S = []
  | [], _, _ => rfl
  | h :: S, k, hh => by
    rw [posE, if_neg fun z => hh (by rw [z]; exact List.mem_cons_self), posE_no fun z => hh (List.mem_cons_of_mem _ z)]
theorem posE_len {l : Int} : ∀ {S : List Int} {k : Int}, (posE l k S).length = (S.filter (· = l)).length
  | [], _ => rfl
  | h :: S, k => by
    rw [posE, List.filter_cons]
    by_cases c : h = l
    · rw [if_pos c, if_pos (decide_eq_true c), List.length_cons, List.length_cons, posE_len]
    · rw [if_neg c, if_neg (by simpa using c), posE_len]
theorem raise_first {l : Int} {T : List Int} (hT : ∀ h ∈ T, h ≤ l) (hl : l ∈ T) (k : Int) : ∃ T1 T2 Q, T = T1 ++ l :: T2 ∧ posE l k T = (k + T1.length) :: Q ∧ raise1 l T = T1 ++ (l + 1) :: T2 := by
  obtain ⟨T1, T2, rfl, hn⟩ := List.eq_append_cons_of_mem hl
  refine ⟨T1, T2, posE l (k + T1.length + 1) T2, rfl, ?_, ?_⟩
  · rw [posE_app, posE_no hn, posE, if_pos rfl]
    rfl
  · refine raise_skip _ _ fun h hh => ?_
    have h1 := hT h (List.mem_append_left _ hh)
    have h2 : h ≠ l := fun z => hn (z ▸ hh)
    omega
theorem raise_last {l : Int} {T : List Int} (hT : ∀ h ∈ T, h ≤ l) (hl : l ∈ T) (k : Int) : ∃ T1 T2 Q, T = T1 ++ l :: T2 ∧ posE l k T = Q ++ [k + (T1.length : Int)] ∧ (raise1 l T.reverse).reverse = T1 ++ (l + 1) :: T2 := by
  obtain ⟨T2, T1, e, hn⟩ := List.eq_append_cons_of_mem (List.mem_reverse.mpr hl)
  have e' : T = T1.reverse ++ l :: T2.reverse := by
    have := congrArg List.reverse e
    simpa using this
  have hn' : l ∉ T2.reverse := fun z => hn (List.mem_reverse.mp z)
  refine ⟨T1.reverse, T2.reverse, posE l k T1.reverse, e', ?_, ?_⟩
  · conv => lhs; rw [e']
    rw [posE_app, posE, if_pos rfl, posE_no hn']
  · rw [e, raise_skip _ _ fun h hh => ?_]
    · simp
    · have h1 := hT h (by rw [e']; exact List.mem_append_right _ (List.mem_cons_of_mem _ (List.mem_reverse.mpr hh)))
      have h2 : h ≠ l := fun z => hn (z ▸ hh)
      omega
end Tk
end

section
set_option Elab.async false
set_option linter.all false
set_option maxRecDepth 100000
set_option maxHeartbeats 1000000
/-! k67: one pass, as the program does it, 2. -/
namespace Tk
open PySem PySem.Spec PyProof.Rows L2 Evl Tb Fd
theorem ixN_nat {n i : Nat} (h : i < n) : ixN n (i : Int) = some i := by
  unfold ixN
  rw [if_pos (by omega), if_pos (by omega)]
  simp
def posC (l : Int) (d : PyData) : Option PyData := match itemsOf d with
  | some [.int i, .int h] => if l < h then some (.int i) else none
  | _ => none
theorem pos_filter (l : Int) : ∀ (hs : List Int) (k : Int), (enD k (hs.map .int)).filterMap (posC l) = (posG l k hs).map .int
  | [], _ => rfl
  | h :: hs, k => by
    rw [List.map_cons, enD, List.filterMap_cons, posG]
    have e : posC l (.tuple [.int k, .int h]) = if l < h then some (.int k) else none := rfl
    rw [e]
    by_cases c : l < h
    · rw [if_pos c, if_pos c, pos_filter l hs (k + 1)]
      rfl
    · rw [if_neg c, if_neg c, pos_filter l hs (k + 1)]
theorem lc_ends {hs : List Int} {l : Int} (hl : hs.length ≤ 3000) : dLc (dEnum (dCons (dVar 0) (dK []))) (dRow 2 (dGs (dName 2) (dGs (dName 4) dNil))) (dTest (dOp gtD (dVar 4) (dVar 1))) (dVar 2) [2, 4] [.d (hL hs), .d (.int l), .no, .no, .no] =
    some ((posG l 0 hs).map .int, [.d (hL hs), .d (.int l), .no, .no, .no]) := by
  rw [← pos_filter]
  refine dLc_map _ (by simp) rfl (by rw [enD_length, List.length_map]; omega) rfl fun d hd => ?_
  obtain ⟨i, hi⟩ := List.getElem?_of_mem hd
  rw [enD_get, List.getElem?_map] at hi
  cases hx : hs[i]? with
  | none =>
    rw [hx] at hi
    cases hi
  | some h =>
    rw [hx] at hi
    cases hi
    have hc : posC l (.tuple [.int (0 + (i : Int)), .int h]) = if l < h then some (.int (0 + (i : Int))) else none := rfl
    rw [hc]
    generalize hL hs = HL at *
    generalize 0 + (i : Int) = k at *
    refine ⟨[.d HL, .d (.int l), .d (.int k), .no, .d (.int h)], [.d HL, .d (.int l), .d (.int k), .no, .d (.int h)], by simp [wipeE, setD, canSet], ?_⟩
    by_cases c : l < h
    · rw [if_pos c]
      exact ⟨[.d HL, .d (.int l), .d (.int k), .no, .d (.int h)], by simp [c], by simp, by simp [wipeE]⟩
    · rw [if_neg c]
      exact ⟨by simp [c], by simp [wipeE]⟩
/-! ### lowering -/
theorem len_hL (hs : List Int) : lenD [hL hs] = some (.int (hs.length : Int)) := by
  rw [Fd.len_list, List.length_map]
theorem lb_no1 {HH : List PyData} {es : List Int} {l a : Int} (h : a = (es.length : Int) - 1) : F__lower_behind HH [hL es, .int a, .int l] = some (.bool false, HH) := by
  have e := len_hL es
  generalize hL es = HE at *
  simp [F__lower_behind, fnM, m__lower_behind, init, e, h]
theorem lb_no2 {hs es : List Int} {l : Int} {a p : Nat} {h : Int} (h1 : es[a]? = some (p : Int)) (h2 : hs[p]? = some h) (h3 : h ≠ l + 1) : F__lower_behind (hs.map .int) [hL es, .int (a : Int), .int l] = some (.bool false, hs.map .int) := by
  have e := len_hL es
  have i1 := ix_hL h1
  have a1 : atI (hs.map PyData.int) (p : Int) = some (.int h) := at_nat (by rw [List.getElem?_map, h2]; rfl)
  generalize hL es = HE at *
  generalize hs.map PyData.int = HH at *
  by_cases c : (a : Int) = (es.length : Int) - 1
  · simp [F__lower_behind, fnM, m__lower_behind, init, e, c]
  · simp [F__lower_behind, fnM, m__lower_behind, init, e, c, dIxV, ownL, i1, a1, h3]
theorem la_no1 {HH : List PyData} {es : List Int} {l : Int} : F__lower_ahead HH [hL es, .int 0, .int l] = some (.bool false, HH) := by
  generalize hL es = HE at *
  simp [F__lower_ahead, fnM, m__lower_ahead, init]
theorem e_gap' {l lo hi : Int} {X S Y hs : List Int} (hh : hs = X ++ S ++ Y) (hlo : lo = X.length - 1) (hhi : hi = X.length + S.length) (hl : hs.length ≤ 3000) :
    F__gap_between [.list (hs.map .int), .int lo, .int hi, .int l] = some ((posE l X.length S).map .int) := e_gap hh hlo hhi hl
theorem set_at {α : Type} (X Y : List α) (x y : α) : (X ++ x :: Y).set X.length y = X ++ y :: Y := by simp
theorem set_int (X Y : List Int) (x y : Int) : ((X ++ x :: Y).map PyData.int).set X.length (.int y) = (X ++ y :: Y).map .int := by
  have := set_at (X.map PyData.int) (Y.map .int) (.int x) (.int y)
  rw [List.length_map] at this
  rw [List.map_append, List.map_cons, this, List.map_append, List.map_cons]
theorem lb_yes {es X T C : List Int} {l : Int} {a : Nat} (hT : ∀ h ∈ T, h ≤ l) (hl : l ∈ T) (h1 : es[a]? = some (X.length : Int)) (h2 : es[a + 1]? = some ((X.length : Int) + 1 + T.length)) (hz : (X ++ (l + 1) :: (T ++ C)).length ≤ 3000) :
    F__lower_behind ((X ++ (l + 1) :: (T ++ C)).map .int) [hL es, .int (a : Int), .int l] = some (.bool true, (X ++ l :: (bF l T ++ C)).map .int) := by
  have e := len_hL es
  have i1 := ix_hL h1
  have i2 := ix_hL h2
  rw [show ((a + 1 : Nat) : Int) = (a : Int) + 1 from rfl] at i2
  have hes := (List.getElem?_eq_some_iff.mp h2).1
  have c0 : ¬ (a : Int) = (es.length : Int) - 1 := by omega
  have zl : (X ++ (l + 1) :: (T ++ C)).length = X.length + (T.length + C.length + 1) := by simp
  have a1 : atI ((X ++ (l + 1) :: (T ++ C)).map PyData.int) (X.length : Int) = some (.int (l + 1)) := at_nat (by rw [List.getElem?_map]; simp)
  have s1 : ixN ((X ++ (l + 1) :: (T ++ C)).map PyData.int).length (X.length : Int) = some X.length := ixN_nat (by rw [List.length_map]; omega)
  obtain ⟨T1, T2, Q, eT, eQ, eR⟩ := raise_first hT hl ((X.length : Int) + 1)
  have eX : ((X ++ [l + 1]).length : Int) = (X.length : Int) + 1 := by simp
  have g := e_gap' (l := l) (hs := X ++ (l + 1) :: (T ++ C)) (lo := X.length) (hi := (X.length : Int) + 1 + T.length) (X := X ++ [l + 1]) (S := T) (Y := C) (by simp) (by omega) (by omega) hz
  rw [eX, eQ] at g
  have fl := flat_ints (((X.length : Int) + 1 + T1.length) :: Q)
  have L1 : ((X ++ (l + 1) :: (T ++ C)).map PyData.int).set X.length (.int l) = (X ++ l :: (T ++ C)).map .int := set_int X (T ++ C) (l + 1) l
  have cnt : (T.filter (· = l)).length = Q.length + 1 := by
    rw [← posE_len (k := (X.length : Int) + 1), eQ]
    rfl
  by_cases c : 1 < Q.length + 1
  · have hb : bF l T = T1 ++ (l + 1) :: T2 := by
      unfold bF
      rw [cnt, if_pos c, eR]
    have s2 : ixN ((X ++ l :: (T ++ C)).map PyData.int).length ((X.length : Int) + 1 + T1.length) = some (X.length + 1 + T1.length) := by
      have := ixN_nat (n := ((X ++ l :: (T ++ C)).map PyData.int).length) (i := X.length + 1 + T1.length) (by rw [eT]; simp; omega)
      exact this
    have L2 : ((X ++ l :: (T ++ C)).map PyData.int).set (X.length + 1 + T1.length) (.int (l + 1)) = (X ++ l :: (bF l T ++ C)).map .int := by
      have := set_at ((X ++ l :: T1).map PyData.int) ((T2 ++ C).map .int) (.int l) (.int (l + 1))
      rw [List.length_map, show (X ++ l :: T1).length = X.length + 1 + T1.length by simp; omega] at this
      rw [hb]
      conv => lhs; rw [eT]
      have e3 : (X ++ l :: (T1 ++ l :: T2 ++ C)).map PyData.int = (X ++ l :: T1).map PyData.int ++ .int l :: (T2 ++ C).map .int := by simp
      rw [e3, this]
      simp
    have i3 : ixD (.list ((((X.length : Int) + 1 + T1.length) :: Q).map .int)) (.int 0) = some (.int ((X.length : Int) + 1 + T1.length)) := by
      show atI _ 0 = _
      exact at_0 ..
    have e4 : lenD [.list ((((X.length : Int) + 1 + T1.length) :: Q).map .int)] = some (.int ((Q.length : Int) + 1)) := by
      rw [Fd.len_list, List.length_map, List.length_cons]
      rfl
    have c1 : (1 : Int) < (Q.length : Int) + 1 := by omega
    rw [← L2]
    rw [← L1] at s2 ⊢
    rw [List.length_set] at s2
    generalize hL es = HE at *
    generalize (X ++ (l + 1) :: (T ++ C)).map PyData.int = HH at *
    generalize (((X.length : Int) + 1 + T1.length) :: Q).map PyData.int = GG at *
    generalize (X.length : Int) + 1 + T1.length = k1 at *
    simp [F__lower_behind, fnM, m__lower_behind, init, e, c0, dIxV, ownL, i1, i2, a1, g, fl, setD, canSet, sSetIx, s1, putL, e4, c1, i3, s2]
  · have hb : bF l T = T := by
      unfold bF
      rw [cnt, if_neg c]
    have e4 : lenD [.list ((((X.length : Int) + 1 + T1.length) :: Q).map .int)] = some (.int ((Q.length : Int) + 1)) := by
      rw [Fd.len_list, List.length_map, List.length_cons]
      rfl
    have c1 : ¬ (1 : Int) < (Q.length : Int) + 1 := by omega
    rw [hb, ← L1]
    generalize hL es = HE at *
    generalize (X ++ (l + 1) :: (T ++ C)).map PyData.int = HH at *
    generalize (((X.length : Int) + 1 + T1.length) :: Q).map PyData.int = GG at *
    simp [F__lower_behind, fnM, m__lower_behind, init, e, c0, dIxV, ownL, i1, i2, a1, g, fl, setD, canSet, sSetIx, s1, putL, e4, c1]
theorem la_yes {es A T C : List Int} {l : Int} {a : Nat} (hT : ∀ h ∈ T, h ≤ l) (hl : l ∈ T) (h0 : es[a]? = some ((A.length : Int) - 1)) (h1 : es[a + 1]? = some ((A.length : Int) + T.length)) (hz : (A ++ T ++ (l + 1) :: C).length ≤ 3000) :
    F__lower_ahead ((A ++ T ++ (l + 1) :: C).map .int) [hL es, .int ((a : Int) + 1), .int l] = some (.bool true, (A ++ bL l T ++ l :: C).map .int) := by
  have i0 := ix_hL h0
  have i1 := ix_hL h1
  rw [show ((a + 1 : Nat) : Int) = (a : Int) + 1 from rfl] at i1
  have c0 : ¬ (a : Int) + 1 = 0 := by omega
  have eN : ((A ++ T).length : Int) = (A.length : Int) + T.length := by simp
  have zl : (A ++ T ++ (l + 1) :: C).length = (A ++ T).length + (C.length + 1) := by rw [List.length_append, List.length_cons]
  have a1 : atI ((A ++ T ++ (l + 1) :: C).map PyData.int) ((A.length : Int) + T.length) = some (.int (l + 1)) := by
    rw [← eN]
    exact at_nat (by rw [List.getElem?_map]; simp)
  have s1 : ixN ((A ++ T ++ (l + 1) :: C).map PyData.int).length ((A.length : Int) + T.length) = some (A ++ T).length := by
    rw [← eN]
    exact ixN_nat (by rw [List.length_map]; omega)
  obtain ⟨T1, T2, Q, eT, eQ, eR⟩ := raise_last hT hl (A.length : Int)
  have g := e_gap' (l := l) (hs := A ++ T ++ (l + 1) :: C) (lo := (A.length : Int) - 1) (hi := (A.length : Int) + T.length) (X := A) (S := T) (Y := (l + 1) :: C) rfl rfl rfl hz
  rw [eQ] at g
  have fl := flat_ints (Q ++ [(A.length : Int) + T1.length])
  have L1 : ((A ++ T ++ (l + 1) :: C).map PyData.int).set (A ++ T).length (.int l) = (A ++ T ++ l :: C).map .int := set_int (A ++ T) C (l + 1) l
  have cnt : (T.filter (· = l)).length = Q.length + 1 := by
    rw [← posE_len (k := (A.length : Int)), eQ]
    simp
  have e5 : (a : Int) + 1 - 1 = a := by omega
  have e4 : lenD [.list ((Q ++ [(A.length : Int) + T1.length]).map .int)] = some (.int ((Q.length : Int) + 1)) := by
    rw [Fd.len_list, List.length_map, List.length_append]
    rfl
  by_cases c : 1 < Q.length + 1
  · have hb : bL l T = T1 ++ (l + 1) :: T2 := by
      unfold bL
      rw [cnt, if_pos c, eR]
    have s2 : ixN ((A ++ T ++ l :: C).map PyData.int).length ((A.length : Int) + T1.length) = some (A.length + T1.length) := by
      have := ixN_nat (n := ((A ++ T ++ l :: C).map PyData.int).length) (i := A.length + T1.length) (by rw [eT]; simp)
      exact this
    have L2 : ((A ++ T ++ l :: C).map PyData.int).set (A.length + T1.length) (.int (l + 1)) = (A ++ bL l T ++ l :: C).map .int := by
      have := set_at ((A ++ T1).map PyData.int) ((T2 ++ l :: C).map .int) (.int l) (.int (l + 1))
      rw [List.length_map, List.length_append] at this
      rw [hb]
      conv => lhs; rw [eT]
      have e3 : (A ++ (T1 ++ l :: T2) ++ l :: C).map PyData.int = (A ++ T1).map PyData.int ++ .int l :: (T2 ++ l :: C).map .int := by simp
      rw [e3, this]
      simp
    have i3 : ixD (.list ((Q ++ [(A.length : Int) + T1.length]).map .int)) (.int (-1)) = some (.int ((A.length : Int) + T1.length)) := by
      show atI _ (-1) = _
      unfold atI ixN
      rw [List.length_map, List.length_append, if_neg (by omega), if_pos (by simp; omega)]
      rw [List.map_append]
      have : ((-1 : Int) + ((Q.length : Int) + 1)).toNat = Q.length := by omega
      simp [this]
    have c1 : (1 : Int) < (Q.length : Int) + 1 := by omega
    rw [← L2]
    rw [← L1] at s2 ⊢
    rw [List.length_set] at s2
    generalize hL es = HE at *
    generalize (A ++ T ++ (l + 1) :: C).map PyData.int = HH at *
    generalize (Q ++ [(A.length : Int) + T1.length]).map PyData.int = GG at *
    generalize (A.length : Int) + T1.length = k1 at *
    generalize (A.length : Int) + T.length = k2 at *
    generalize (A.length : Int) - 1 = k3 at *
    simp [F__lower_ahead, fnM, m__lower_ahead, init, c0, e4, e5, dIxV, ownL, i0, i1, a1, g, fl, setD, canSet, sSetIx, s1, putL, c1, i3, s2]
  · have hb : bL l T = T := by
      unfold bL
      rw [cnt, if_neg c]
    have c1 : ¬ (1 : Int) < (Q.length : Int) + 1 := by omega
    rw [hb, ← L1]
    generalize hL es = HE at *
    generalize (A ++ T ++ (l + 1) :: C).map PyData.int = HH at *
    generalize (Q ++ [(A.length : Int) + T1.length]).map PyData.int = GG at *
    generalize (A.length : Int) + T.length = k2 at *
    generalize (A.length : Int) - 1 = k3 at *
    simp [F__lower_ahead, fnM, m__lower_ahead, init, c0, e4, e5, dIxV, ownL, i0, i1, a1, g, fl, setD, canSet, sSetIx, s1, putL, c1]
end Tk
end

section
set_option Elab.async false
set_option linter.all false
set_option maxRecDepth 100000
set_option maxHeartbeats 1000000
/-! k67: all passes, as the program does them. -/
namespace Tk
open PySem PySem.Spec PyProof.Rows L2 Evl Tb Fd
abbrev EnF (hs : List Int) (l : Int) (x2 : Sl) (es : List Int) : En := [.p (hs.map .int), .d (.int l), x2, .d (.list (es.map .int)), .no]
theorem gap_turn {hs X S Y es : List Int} {l : Int} {n : Nat} (hh : hs = X ++ S ++ Y) (h1 : es[n]? = some ((X.length : Int) - 1)) (h2 : es[n + 1]? = some ((X.length : Int) + S.length)) (hz : hs.length ≤ 3000) :
    (dNotT (dTru (dFz (dBorL (dCallL 4 F__gap_between [] (dCons (dVar 0) (dCons (dOp ixD (dVar 3) (dVar 2)) (dCons (dOp ixD (dVar 3) (dOp addD (dVar 2) (dK (.int 1)))) (dCons (dVar 1) (dK [])))))))))) (EnF hs l (.d (.int (n : Int))) es) = some ((posE l (X.length : Int) S).isEmpty, EnF hs l (.d (.int (n : Int))) es) := by
  have i1 := ix_hL h1
  have i2 := ix_hL h2
  rw [show ((n + 1 : Nat) : Int) = (n : Int) + 1 from rfl] at i2
  have g := e_gap' (l := l) hh rfl rfl hz
  have fl := flat_ints (posE l (X.length : Int) S)
  have em : (List.map PyData.int (posE l (X.length : Int) S)).isEmpty = (posE l (X.length : Int) S).isEmpty := by
    cases posE l (X.length : Int) S <;> rfl
  rw [← em]
  unfold EnF
  unfold hL at i1 i2
  generalize es.map PyData.int = HE at *
  generalize hs.map PyData.int = HH at *
  generalize (posE l (X.length : Int) S).map PyData.int = GG at *
  simp [i1, i2, g, fl, truD]
theorem turn_pass {hs X S Y es : List Int} {l : Int} {n : Nat} (hh : hs = X ++ S ++ Y) (h1 : es[n]? = some ((X.length : Int) - 1)) (h2 : es[n + 1]? = some ((X.length : Int) + S.length)) (hz : hs.length ≤ 3000) (hm : l ∈ S) :
    m__fill_gap_L1 (EnF hs l (.d (.int (n : Int))) es) = some (.nx (EnF hs l (.d (.int (n : Int))) es)) := by
  have g := gap_turn (l := l) hh h1 h2 hz
  have : (posE l (X.length : Int) S).isEmpty = false := by
    have e := posE_len (l := l) (S := S) (k := X.length)
    cases hp : posE l (X.length : Int) S with
    | nil =>
      rw [hp] at e
      have := List.length_eq_zero_iff.mp e.symm
      have h := List.filter_eq_nil_iff.mp this l hm
      simp at h
    | cons _ _ => rfl
  rw [this] at g
  unfold m__fill_gap_L1
  simp only [sIf_e, g, Bool.false_eq_true, if_false]
theorem rg_split {n N : Nat} (h : n < N) : rgD 0 N = rgD 0 n ++ .int (n : Int) :: rgD ((n : Int) + 1) (N - n - 1) := by
  have : ∀ (n N : Nat) (k : Int), n < N → rgD k N = rgD k n ++ .int (k + n) :: rgD (k + n + 1) (N - n - 1) := fun n => by
    induction n with
    | zero =>
      intro N k hN
      cases N with
      | zero => omega
      | succ N =>
        rw [rg_succ]
        show _ = [] ++ _
        rw [List.nil_append]
        have e1 : k + ((0 : Nat) : Int) = k := by omega
        rw [e1]
        rfl
    | succ n ih =>
      intro N k hN
      cases N with
      | zero => omega
      | succ N =>
        rw [rg_succ, rg_succ, ih N (k + 1) (by omega)]
        have e1 : k + 1 + (n : Int) = k + ((n + 1 : Nat) : Int) := by omega
        have e2 : N + 1 - (n + 1) - 1 = N - n - 1 := by omega
        rw [e1, e2]
        rfl
  have h2 := this n N 0 h
  rw [Int.zero_add] at h2
  exact h2
theorem pass_good {l : Int} {es : List Int} {A : List Int} (g : Good l A) : ∀ (R : List Int) (x2 : Sl), es = endsL l (A ++ R) → (A ++ R).length ≤ 3000 → (x2 = .no ∨ ∃ x, x2 = .d x) → ∃ x2', (x2' = .no ∨ ∃ x, x2' = .d x) ∧ ∀ ds, runFor (dName 2) m__fill_gap_L1 (rgD 0 (posG l 0 A).length ++ ds) (EnF (A ++ R) l x2 es) = runFor (dName 2) m__fill_gap_L1 ds (EnF (A ++ R) l x2' es) := by
  induction g with
  | nil => exact fun R x2 _ _ f => ⟨x2, f, fun ds => rfl⟩
  | @snoc A S x g1 h1 h2 h3 ih =>
    intro R x2 he hz f
    have eq1 : A ++ S ++ [x] ++ R = A ++ (S ++ x :: R) := by simp
    rw [eq1] at he hz ⊢
    obtain ⟨y, fy, hy⟩ := ih (S ++ x :: R) x2 he hz f
    have n1 : (posG l 0 (A ++ S ++ [x])).length = (posG l 0 A).length + 1 := by
      rw [posG_app, posG_app, posG_low h1, posG, if_pos h3]
      simp [posG]
    obtain ⟨E, Z, e1, e2, _⟩ := ends_at (R := x :: R) g1 h1 (.inr ⟨x, R, rfl, h3⟩)
    have eq2 : A ++ S ++ x :: R = A ++ (S ++ x :: R) := by simp
    rw [eq2, ← he] at e1
    refine ⟨.d (.int ((posG l 0 A).length : Int)), .inr ⟨_, rfl⟩, fun ds => ?_⟩
    rw [n1, rg_split (Nat.lt_succ_self _)]
    have e3 : rgD ((((posG l 0 A).length : Nat) : Int) + 1) ((posG l 0 A).length + 1 - (posG l 0 A).length - 1) = [] := by
      rw [show (posG l 0 A).length + 1 - (posG l 0 A).length - 1 = 0 by omega]
      rfl
    rw [e3, List.append_assoc, hy]
    have t := turn_pass (l := l) (es := es) (n := (posG l 0 A).length) (hs := A ++ (S ++ x :: R)) (X := A) (S := S) (Y := x :: R) (by simp) (by rw [e1, ← e2]; simp) (by rw [e1, ← e2, List.getElem?_append_right (by omega)]; simp) hz h2
    refine runFor_cons_nx ?_ t
    rcases fy with rfl | ⟨z, rfl⟩ <;> simp [EnF, setD, canSet]
theorem posG_len (l : Int) : ∀ (hs : List Int) (k : Int), (posG l k hs).length ≤ hs.length
  | [], _ => Nat.le_refl _
  | h :: hs, k => by
    have := posG_len l hs (k + 1)
    unfold posG
    split
    · rw [List.length_cons, List.length_cons]
      omega
    · rw [List.length_cons]
      omega
theorem ends_expr {hs : List Int} {l : Int} (hz : hs.length ≤ 3000) : (dOp addD (dOp addD (dFz (dLst (dCons (dUn negD (dK (.int 1))) (dK [])))) (dFz (dBorL (dLc (dEnum (dCons (dVar 0) (dK []))) (dRow 2 (dGs (dName 2) (dGs (dName 4) dNil))) (dTest (dOp gtD (dVar 4) (dVar 1))) (dVar 2) [2, 4])))) (dFz (dLst (dCons (dLenV 0) (dK []))))) [.p (hs.map .int), .d (.int l), .no, .no, .no] =
    some (.list ((endsL l hs).map .int), [.p (hs.map .int), .d (.int l), .no, .no, .no]) := by
  have h := lc_ends (l := l) hz
  have fl := flat_ints (posG l 0 hs)
  have pl := posG_len l hs 0
  have a1 : addD (.list [.int (-1)]) (.list ((posG l 0 hs).map .int)) = some (.list ((-1 :: posG l 0 hs).map .int)) := addD_ints (xs := [-1]) (by show 1 + _ ≤ _; omega)
  have a2 : addD (.list ((-1 :: posG l 0 hs).map .int)) (.list [.int (hs.length : Int)]) = some (.list ((endsL l hs).map .int)) := addD_ints (ys := [(hs.length : Int)]) (by simp; omega)
  have ln : ((hs.map PyData.int).length : Int) = hs.length := by rw [List.length_map]
  rw [← ln] at a2
  unfold hL at h
  generalize (endsL l hs).map PyData.int = EE at *
  generalize (-1 :: posG l 0 hs).map PyData.int = E1 at *
  generalize (posG l 0 hs).map PyData.int = GG at *
  generalize hs.map PyData.int = HH at *
  simp [small, h, fl, a1, dLenV, ownL, a2]
theorem fill_run {hs : List Int} {l : Int} {v : Bool} {ys : List PyData} (hz : hs.length ≤ 3000) (h : ∃ e', runFor (dName 2) m__fill_gap_L1 (rgD 0 ((posG l 0 hs).length + 1)) (EnF hs l .no (endsL l hs)) = some (.rt (.bool v) (.p ys :: e'))) : F__fill_gap (hs.map .int) [.int l] = some (.bool v, ys) := by
  obtain ⟨e', h⟩ := h
  have he := ends_expr (l := l) hz
  have pl := posG_len l hs 0
  have le : (endsL l hs).length = (posG l 0 hs).length + 2 := by simp [endsL]
  have hb : big ((((endsL l hs).map PyData.int).length : Int) - 1) = true := decide_eq_true (by rw [List.length_map]; omega)
  have hn : ((((endsL l hs).map PyData.int).length : Int) - 1).toNat = (posG l 0 hs).length + 1 := by rw [List.length_map]; omega
  unfold EnF at h
  generalize (endsL l hs).map PyData.int = EE at *
  generalize hs.map PyData.int = HH at *
  generalize hBB : m__fill_gap_L1 = B at h
  unfold F__fill_gap fnM m__fill_gap
  rw [show (.p HH :: init [.int l] 3 : En) = [.p HH, .d (.int l), .no, .no, .no] from rfl]
  generalize hD : (dOp addD (dOp addD (dFz (dLst (dCons (dUn negD (dK (.int 1))) (dK [])))) (dFz (dBorL (dLc (dEnum (dCons (dVar 0) (dK []))) (dRow 2 (dGs (dName 2) (dGs (dName 4) dNil))) (dTest (dOp gtD (dVar 4) (dVar 1))) (dVar 2) [2, 4])))) (dFz (dLst (dCons (dLenV 0) (dK []))))) = D at he ⊢
  have hB := hBB
  rw [hB]
  simp [he, setD, canSet, hb, hn, h]
end Tk
end

section
set_option Elab.async false
set_option linter.all false
set_option maxRecDepth 100000
set_option maxHeartbeats 1000000
/-! k67: all passes, as the program does them, 2. -/
namespace Tk
open PySem PySem.Spec PyProof.Rows L2 Evl Tb Fd
theorem fill_no {hs : List Int} {l : Int} (hz : hs.length ≤ 3000) (h : ∃ e', runFor (dName 2) m__fill_gap_L1 (rgD 0 ((posG l 0 hs).length + 1)) (EnF hs l .no (endsL l hs)) = some (.nx (.p (hs.map .int) :: e'))) : F__fill_gap (hs.map .int) [.int l] = some (.bool false, hs.map .int) := by
  obtain ⟨e', h⟩ := h
  have he := ends_expr (l := l) hz
  have pl := posG_len l hs 0
  have le : (endsL l hs).length = (posG l 0 hs).length + 2 := by simp [endsL]
  have hb : big ((((endsL l hs).map PyData.int).length : Int) - 1) = true := decide_eq_true (by rw [List.length_map]; omega)
  have hn : ((((endsL l hs).map PyData.int).length : Int) - 1).toNat = (posG l 0 hs).length + 1 := by rw [List.length_map]; omega
  unfold EnF at h
  generalize (endsL l hs).map PyData.int = EE at *
  generalize hs.map PyData.int = HH at *
  generalize hBB : m__fill_gap_L1 = B at h
  unfold F__fill_gap fnM m__fill_gap
  rw [show (.p HH :: init [.int l] 3 : En) = [.p HH, .d (.int l), .no, .no, .no] from rfl]
  generalize hD : (dOp addD (dOp addD (dFz (dLst (dCons (dUn negD (dK (.int 1))) (dK [])))) (dFz (dBorL (dLc (dEnum (dCons (dVar 0) (dK []))) (dRow 2 (dGs (dName 2) (dGs (dName 4) dNil))) (dTest (dOp gtD (dVar 4) (dVar 1))) (dVar 2) [2, 4])))) (dFz (dLst (dCons (dLenV 0) (dK []))))) = D at he ⊢
  rw [hBB]
  simp [he, setD, canSet, hb, hn, h]
/-- a turn that finds an empty gap -/
theorem turn_found {hs X S Y es ys : List Int} {l : Int} {n : Nat} {v : Bool} (hh : hs = X ++ S ++ Y) (h1 : es[n]? = some ((X.length : Int) - 1)) (h2 : es[n + 1]? = some ((X.length : Int) + S.length)) (hz : hs.length ≤ 3000) (hm : ∀ h ∈ S, h < l)
    (hb : (F__lower_behind (hs.map .int) [hL es, .int ((n : Int) + 1), .int l] = some (.bool true, ys.map .int) ∧ v = true) ∨ (F__lower_behind (hs.map .int) [hL es, .int ((n : Int) + 1), .int l] = some (.bool false, hs.map .int) ∧ F__lower_ahead (hs.map .int) [hL es, .int (n : Int), .int l] = some (.bool v, ys.map .int))) :
    m__fill_gap_L1 (EnF hs l (.d (.int (n : Int))) es) = some (.rt (.bool v) [.p (ys.map .int), .d (.int l), .d (.int (n : Int)), .d (.list (es.map .int)), .no]) := by
  have g := gap_turn (l := l) hh h1 h2 hz
  have : (posE l (X.length : Int) S).isEmpty = true := by
    rw [posE_no fun z => by have := hm l z; omega]
    rfl
  rw [this] at g
  unfold m__fill_gap_L1
  simp only [sIf_e, g, if_true]
  unfold EnF
  unfold hL at hb
  generalize es.map PyData.int = HE at *
  generalize hs.map PyData.int = HH at *
  generalize ys.map PyData.int = YY at *
  rcases hb with ⟨hb, rfl⟩ | ⟨hb, ha⟩
  · simp [dCallM, ownB, hb]
  · cases v <;> simp [dCallM, ownB, hb, ha]
theorem good_last {l : Int} {A : List Int} (g : Good l A) : A = [] ∨ ∃ A' x, A = A' ++ [x] ∧ l < x := by
  cases g with
  | nil => exact .inl rfl
  | snoc g1 h1 h2 h3 => exact .inr ⟨_, _, rfl, h3⟩
theorem posG_one {l : Int} {A S R : List Int} (hS : ∀ h ∈ S, h ≤ l) : (posG l 0 (A ++ S ++ R)).length = (posG l 0 A).length + (posG l (A.length + S.length) R).length := by
  rw [posG_app, posG_app, posG_low hS, List.append_nil, List.length_append]
  congr 2
  congr 1
  simp
theorem run_turn {hs A R : List Int} {l : Int} (g : Good l A) (hh : hs = A ++ R) (hz : hs.length ≤ 3000) : ∃ x2', (x2' = .no ∨ ∃ x, x2' = .d x) ∧ runFor (dName 2) m__fill_gap_L1 (rgD 0 ((posG l 0 hs).length + 1)) (EnF hs l .no (endsL l hs)) =
    runFor (dName 2) m__fill_gap_L1 (.int ((posG l 0 A).length : Int) :: rgD (((posG l 0 A).length : Int) + 1) ((posG l 0 hs).length + 1 - (posG l 0 A).length - 1)) (EnF hs l x2' (endsL l hs)) := by
  subst hh
  obtain ⟨x2', f, h⟩ := pass_good (es := endsL l (A ++ R)) g R .no rfl hz (.inl rfl)
  refine ⟨x2', f, ?_⟩
  rw [rg_split (n := (posG l 0 A).length) (N := (posG l 0 (A ++ R)).length + 1) (by rw [posG_app, List.length_append]; omega), h]
theorem set2 {x2 : Sl} {HH : List PyData} {l n : PyData} {E : PyData} (f : x2 = .no ∨ ∃ x, x2 = .d x) : dName 2 n [.p HH, .d l, x2, .d E, .no] = some [.p HH, .d l, .d n, .d E, .no] := by
  rcases f with rfl | ⟨x, rfl⟩ <;> simp [setD, canSet]
theorem e_fill {l : Int} {hs : List Int} {o : Option (List Int)} (h : Fill l hs o) (hz : hs.length ≤ 3000) : F__fill_gap (hs.map .int) [.int l] = match o with
    | none => some (.bool false, hs.map .int)
    | some ys => some (.bool true, ys.map .int) := by
  cases h with
  | stop ga =>
    obtain ⟨A, S, rfl, g, h2, h3⟩ := ga
    refine fill_no hz ?_
    obtain ⟨x2', f, e⟩ := run_turn g rfl hz
    obtain ⟨E, Z, e1, e2, e3, e4, _⟩ := ends_at (R := []) g h2 (.inl rfl)
    rw [List.append_nil] at e1
    have n0 : (posG l 0 (A ++ S)).length + 1 - (posG l 0 A).length - 1 = 0 := by
      have := posG_one (l := l) (A := A) (S := S) (R := []) h2
      rw [List.append_nil] at this
      rw [this]
      show _ + 0 + 1 - _ - 1 = 0
      omega
    have t := turn_pass (l := l) (es := endsL l (A ++ S)) (n := (posG l 0 A).length) (hs := A ++ S) (X := A) (S := S) (Y := []) (by simp) (by rw [e1, ← e2]; simp) (by rw [e1, ← e2, List.getElem?_append_right (by omega)]; simp) hz h3
    rw [e, n0, runFor_cons_nx (set2 f) t]
    exact ⟨_, rfl⟩
  | root hr =>
    refine fill_run hz ?_
    obtain ⟨x2', f, e⟩ := run_turn (l := l) (hs := hs) (A := []) (R := hs) .nil rfl hz
    have low : ∀ h ∈ hs, h ≤ l := fun h hh => Int.le_of_lt (hr h hh)
    have p0 : posG l 0 hs = [] := posG_low low
    have ee : endsL l hs = [-1, (hs.length : Int)] := by
      unfold endsL
      rw [p0]
      rfl
    have t := turn_found (v := false) (ys := hs) (l := l) (es := endsL l hs) (n := 0) (hs := hs) (X := []) (S := hs) (Y := []) (by simp) (by rw [ee]; rfl) (by rw [ee]; simp) hz hr (.inr ⟨lb_no1 (by rw [ee]; rfl), la_no1⟩)
    rw [e]
    exact ⟨_, runFor_cons_rt (set2 f) t⟩
  | @behind A S T C g hS hT hl hC =>
    refine fill_run hz ?_
    have low : ∀ h ∈ S, h ≤ l := fun h hh => Int.le_of_lt (hS h hh)
    have eqh : A ++ S ++ (l + 1) :: (T ++ C) = A ++ (S ++ (l + 1) :: (T ++ C)) := by simp
    obtain ⟨x2', f, e⟩ := run_turn (hs := A ++ S ++ (l + 1) :: (T ++ C)) g eqh hz
    obtain ⟨E, Z, e1, e2, e3, _, e5⟩ := ends_at (R := (l + 1) :: (T ++ C)) g low (.inr ⟨_, _, rfl, by omega⟩)
    have z := e5 _ _ rfl
    obtain ⟨Z', hZ⟩ := tail_at (l := l) (k := (A.length : Int) + S.length + 1) hT hC ((A ++ S ++ (l + 1) :: (T ++ C)).length : Int) (by simp; omega)
    rw [hZ] at z
    rw [z] at e1
    have g0 : (endsL l (A ++ S ++ (l + 1) :: (T ++ C)))[(posG l 0 A).length]? = some ((A.length : Int) - 1) := by rw [e1, ← e2]; simp
    have g1 : (endsL l (A ++ S ++ (l + 1) :: (T ++ C)))[(posG l 0 A).length + 1]? = some ((A.length : Int) + S.length) := by rw [e1, ← e2, List.getElem?_append_right (by omega)]; simp
    have g2 : (endsL l (A ++ S ++ (l + 1) :: (T ++ C)))[(posG l 0 A).length + 1 + 1]? = some ((A.length : Int) + S.length + 1 + T.length) := by
      rw [e1, ← e2, List.getElem?_append_right (by omega), show E.length + 1 + 1 - E.length = 2 by omega]
      rfl
    have eN : ((A ++ S).length : Int) = (A.length : Int) + S.length := by simp
    have b := lb_yes (X := A ++ S) (T := T) (C := C) (es := endsL l (A ++ S ++ (l + 1) :: (T ++ C))) (a := (posG l 0 A).length + 1) hT hl (by rw [eN]; exact g1) (by rw [eN]; exact g2) hz
    have t := turn_found (v := true) (ys := A ++ S ++ l :: (bF l T ++ C)) (l := l) (hs := A ++ S ++ (l + 1) :: (T ++ C)) (es := endsL l (A ++ S ++ (l + 1) :: (T ++ C))) (n := (posG l 0 A).length) (X := A) (S := S) (Y := (l + 1) :: (T ++ C)) rfl g0 g1 hz hS (.inl ⟨b, rfl⟩)
    rw [e]
    exact ⟨_, runFor_cons_rt (set2 f) t⟩
  | @ahead A S T C g hT hl hS hC =>
    refine fill_run hz ?_
    have low : ∀ h ∈ S, h ≤ l := fun h hh => Int.le_of_lt (hS h hh)
    have gA : Good l (A ++ T ++ [l + 1]) := .snoc g hT hl (by omega)
    have eqh : A ++ T ++ (l + 1) :: (S ++ C) = A ++ T ++ [l + 1] ++ (S ++ C) := by simp
    have eqh2 : A ++ T ++ (l + 1) :: (S ++ C) = A ++ T ++ [l + 1] ++ S ++ C := by simp
    obtain ⟨x2', f, e⟩ := run_turn (hs := A ++ T ++ (l + 1) :: (S ++ C)) gA eqh hz
    have hC' : C = [] ∨ ∃ c C', C = c :: C' ∧ l < c := by
      rcases hC with h | ⟨c, C', h, hc⟩
      · exact .inl h
      · exact .inr ⟨c, C', h, by omega⟩
    obtain ⟨E, Z, e1, e2, e3, e4, e5⟩ := ends_at (R := C) gA low hC'
    rw [← eqh2] at e1 e5
    have n1 : (posG l 0 (A ++ T ++ [l + 1])).length = (posG l 0 A).length + 1 := by
      rw [posG_one hT, posG, if_pos (by omega)]
      rfl
    have lN : ((A ++ T ++ [l + 1]).length : Int) = (A.length : Int) + T.length + 1 := by simp; omega
    rw [lN, Int.add_sub_cancel] at e1
    rw [n1] at e e2
    obtain ⟨E0, f1, f2⟩ := good_ends g
    have eE : E = E0 ++ [(A.length : Int) - 1] := by
      have : (-1 :: posG l 0 (A ++ T ++ [l + 1])) = E0 ++ [(A.length : Int) - 1] ++ [(A.length : Int) + T.length] := by
        rw [posG_app, posG_app, posG_low hT, posG, if_pos (by omega), ← f1]
        simp [posG]
      rw [this] at e3
      exact (List.append_inj' e3 rfl).1.symm
    have g0 : (endsL l (A ++ T ++ (l + 1) :: (S ++ C)))[(posG l 0 A).length]? = some ((A.length : Int) - 1) := by
      rw [e1, eE, ← f2]
      simp
    have g1 : (endsL l (A ++ T ++ (l + 1) :: (S ++ C)))[(posG l 0 A).length + 1]? = some ((A.length : Int) + T.length) := by
      rw [e1, ← e2]
      simp
    have g2 : (endsL l (A ++ T ++ (l + 1) :: (S ++ C)))[(posG l 0 A).length + 1 + 1]? = some ((A.length : Int) + T.length + 1 + S.length) := by
      rw [e1, ← e2, List.getElem?_append_right (by omega)]
      simp
    have a := la_yes (A := A) (T := T) (C := S ++ C) (es := endsL l (A ++ T ++ (l + 1) :: (S ++ C))) (a := (posG l 0 A).length) hT hl g0 g1 hz
    have b : F__lower_behind ((A ++ T ++ (l + 1) :: (S ++ C)).map .int) [hL (endsL l (A ++ T ++ (l + 1) :: (S ++ C))), .int (((posG l 0 A).length : Int) + 1 + 1), .int l] = some (.bool false, (A ++ T ++ (l + 1) :: (S ++ C)).map .int) := by
      rcases hC with rfl | ⟨c, C', rfl, hc⟩
      · refine lb_no1 ?_
        have hz0 := e4 rfl
        subst hz0
        rw [e1]
        simp only [List.length_append, List.length_cons, List.length_nil, e2]
        omega
      · refine lb_no2 (a := (posG l 0 A).length + 1 + 1) (p := A.length + T.length + 1 + S.length) (h := c) g2 ?_ (by omega)
        have e0 : (A ++ T ++ [l + 1] ++ S).length = A.length + T.length + 1 + S.length := by simp only [List.length_append, List.length_cons, List.length_nil]
        rw [eqh2, List.getElem?_append_right (Nat.le_of_eq e0), e0, Nat.sub_self]
        rfl
    have t := turn_found (v := true) (ys := A ++ bL l T ++ l :: (S ++ C)) (l := l) (hs := A ++ T ++ (l + 1) :: (S ++ C)) (es := endsL l (A ++ T ++ (l + 1) :: (S ++ C))) (n := (posG l 0 A).length + 1) (X := A ++ T ++ [l + 1]) (S := S) (Y := C) eqh2 (by rw [lN, Int.add_sub_cancel]; exact g1) (by rw [lN]; exact g2) hz hS (.inr ⟨b, a⟩)
    rw [e]
    exact ⟨_, runFor_cons_rt (set2 f) t⟩
end Tk
end

section
set_option Elab.async false
set_option linter.all false
set_option maxRecDepth 100000
set_option maxHeartbeats 1000000
/-! k67: a key taken out, as the program does it. -/
namespace Tk
open PySem PySem.Spec PyProof.Rows L2 Evl Tb Fd
theorem raise1_len (l : Int) : ∀ S : List Int, (raise1 l S).length = S.length
  | [] => rfl
  | h :: S => by
    rw [raise1]
    split
    · rfl
    · rw [List.length_cons, List.length_cons, raise1_len l S]
theorem fill_len {l : Int} {hs ys : List Int} (h : Fill l hs (some ys)) : ys.length = hs.length := by
  cases h with
  | @behind A S T C g hS hT hl hC =>
    have : (bF l T).length = T.length := by
      unfold bF
      split
      · exact raise1_len l T
      · rfl
    simp [this]
  | @ahead A S T C g hT hl hS hC =>
    have : (bL l T).length = T.length := by
      unfold bL
      split
      · rw [List.length_reverse, raise1_len, List.length_reverse]
      · rfl
    simp [this]
theorem loop67 {T K P R : PyData} {l : Int} {hs r : List Int} (h : Lp l hs r) : hs.length ≤ 3000 → r.length = hs.length ∧ ∃ k l', whileN (dTru (dCallM 3 2 F__fill_gap (dCons (dVar 5) (dK [])))) m_out_gapped_L1 k [.d T, .d K, .d P, .o (hs.map .int), .d R, .d (.int l), .no, .no] = some (.nx [.d T, .d K, .d P, .o (r.map .int), .d R, .d (.int l'), .no, .no]) := by
  induction h with
  | @done l hs f =>
    intro hz
    have e := e_fill f hz
    refine ⟨rfl, 1, l, ?_⟩
    generalize hs.map PyData.int = HH at *
    simp [whileN, dCallM, ownB, e]
  | @step l hs hs' r f _ ih =>
    intro hz
    have e := e_fill f hz
    have fl := fill_len f
    obtain ⟨i1, k, l', i2⟩ := ih (by omega)
    refine ⟨by omega, k + 1, l', ?_⟩
    rw [← i2]
    simp only at e
    generalize hs.map PyData.int = HH at *
    generalize hs'.map PyData.int = H2 at *
    simp [whileN, dCallM, ownB, e, m_out_gapped_L1, sAug, setD, canSet]
def withH (ts : Tw) (hs : List Int) : Tw := List.zipWith (fun q h => (q.1, h)) ts hs
def wC (d : PyData) : Option PyData := match d with
  | .tuple [x, y] => match ixD x (.int 0) with
    | some k => some (.tuple [k, y])
    | none => none
  | _ => none
theorem zip_wC (c : Bool) : ∀ (ts : Tw) (hs : List Int), (zipD (ts.map (Tb.prD c)) (hs.map .int)).filterMap wC = (withH ts hs).map (Tb.prD false)
  | [], _ => rfl
  | _ :: _, [] => rfl
  | q :: ts, h :: hs => by
    have e1 : zipD ((q :: ts).map (Tb.prD c)) ((h :: hs).map .int) = .tuple [Tb.prD c q, .int h] :: zipD (ts.map (Tb.prD c)) (hs.map .int) := rfl
    have e2 : wC (.tuple [Tb.prD c q, .int h]) = some (Tb.prD false (q.1, h)) := by
      simp only [wC, ix_p0]
      rfl
    have e3 : withH (q :: ts) (h :: hs) = (q.1, h) :: withH ts hs := rfl
    rw [e1, List.filterMap_cons, e2, e3]
    simp only [zip_wC c ts hs, List.map_cons]
theorem withH_len (ts : Tw) (hs : List Int) : (withH ts hs).length ≤ ts.length := by
  unfold withH
  rw [List.length_zipWith]
  omega
theorem e_with_heights (b c : Bool) (ts : Tw) (hs : List Int) (hl : ts.length ≤ 3000) : F__with_heights [twD b c ts, .list (hs.map .int)] = some (twD false false (withH ts hs)) := by
  have ht : twD false false (withH ts hs) = .tuple ((withH ts hs).map (Tb.prD false)) := rfl
  have h : dLc (dZipU (dCons (dVar 0) (dCons (dVar 1) (dK [])))) (dRow 2 (dGs (dName 2) (dGs (dName 3) dNil))) (dK true) (dTup (dCons (dOp ixD (dVar 2) (dK (.int 0))) (dCons (dVar 3) (dK [])))) [2, 3] [.d (twD b c ts), .d (.list (hs.map .int)), .no, .no] =
      some ((withH ts hs).map (Tb.prD false), [.d (twD b c ts), .d (.list (hs.map .int)), .no, .no]) := by
    rw [← zip_wC c]
    refine dLc_map _ (by simp [items_tw]) rfl ?_ rfl fun d hd => ?_
    · unfold zipD
      rw [List.length_zipWith, List.length_map]
      omega
    · obtain ⟨i, hi⟩ := List.getElem?_of_mem hd
      obtain ⟨x, y, hx, hy, rfl⟩ := zip_get _ _ i d hi
      obtain ⟨q, _, rfl⟩ := List.mem_map.mp (List.mem_of_getElem? hx)
      obtain ⟨z, _, rfl⟩ := List.mem_map.mp (List.mem_of_getElem? hy)
      have e := ix_p0 c q
      have e2 : wC (.tuple [Tb.prD c q, .int z]) = some (.tuple [.int q.1, .int z]) := by
        simp only [wC, ix_p0]
      rw [e2]
      generalize twD b c ts = T at *
      generalize PyData.list (hs.map PyData.int) = HH at *
      generalize Tb.prD c q = Q at *
      exact ⟨[.d T, .d HH, .d Q, .d (.int z)], [.d T, .d HH, .d Q, .d (.int z)], by simp [wipeE, setD, canSet], [.d T, .d HH, .d Q, .d (.int z)], by simp, by simp [small, e], by simp [wipeE]⟩
  rw [ht]
  generalize twD b c ts = T at *
  generalize PyData.list (hs.map PyData.int) = HH at *
  generalize (withH ts hs).map (Tb.prD false) = W at *
  have tp : tupD [.list W] = some (.tuple W) := rfl
  simp [F__with_heights, fnD, m__with_heights, init, dCb, h, tp, retD]
theorem e_has_key {ts : Tw} (b c : Bool) {k : Int} {i : Nat} {q : Int × Int} (hp : Pl ts k i) (hq : ts[i]? = some q) (hk : q.1 = k) : F_has_key [twD b c ts, .int k] = some (.bool true) := by
  have h1 := e_count_belowP b c hp
  have h2 := len_tw b c ts
  have h3 := ix_tw (b := b) (c := c) hq
  have h4 := ix_p0 c q
  have hi := (List.getElem?_eq_some_iff.mp hq).1
  have c1 : (i : Int) < (ts.length : Int) := by omega
  generalize twD b c ts = T at *
  generalize Tb.prD c q = Q at *
  simp [F_has_key, fnD, m_has_key, init, h1, setD, canSet, h2, h3, h4, c1, hk, retD]
theorem e_without_key {ts : Tw} (b c : Bool) {k : Int} {i : Nat} (hp : Pl ts k i) (hl : ts.length ≤ 40000) : F_without_key [twD b c ts, .int k] = some (twD false false (ts.take i ++ ts.drop (i + 1))) := by
  have h1 := e_count_belowP b c hp
  have h2 := e_as_tuples b c ts hl
  have h3 := sl_upto false false ts i
  have h4 := sl_from false false ts (i + 1)
  have h5 : addD (twD false false (ts.take i)) (twD false false (ts.drop (i + 1))) = some (twD false false (ts.take i ++ ts.drop (i + 1))) := by
    show (if ((ts.take i).map (Tb.prD false)).length + ((ts.drop (i + 1)).map (Tb.prD false)).length ≤ 100000 then _ else none) = _
    rw [if_pos (by rw [List.length_map, List.length_map, List.length_take, List.length_drop]; omega), ← List.map_append]
    rfl
  rw [show ((i + 1 : Nat) : Int) = (i : Int) + 1 from rfl] at h4
  generalize twD b c ts = T at *
  generalize twD false false ts = T2 at *
  generalize twD false false (ts.take i ++ ts.drop (i + 1)) = T3 at *
  generalize twD false false (ts.take i) = T4 at *
  generalize twD false false (ts.drop (i + 1)) = T5 at *
  simp [F_without_key, fnD, m_without_key, init, h1, h2, setD, canSet, dSl, h3, h4, h5, retD]
theorem pl_mid {U V : Tw} {key h : Int} (o : okT none (U ++ (key, h) :: V)) : Pl (U ++ (key, h) :: V) key U.length where
  le := by rw [List.length_append]; omega
  lt := fun j q hq => by
    have hm : (U ++ (key, h) :: V)[U.length]? = some (key, h) := by simp
    by_cases c : j < U.length
    · have := okT_lt o c hq hm
      exact ⟨fun _ => c, fun _ => this⟩
    · by_cases c2 : j = U.length
      · subst c2
        rw [hm] at hq
        cases hq
        exact ⟨fun z => by exfalso; exact Int.lt_irrefl _ z, fun z => absurd z c⟩
      · have := okT_lt o (show U.length < j by omega) hm hq
        exact ⟨fun z => by exfalso; exact Int.lt_irrefl _ (Int.lt_trans z this), fun z => absurd z c⟩
theorem pl_keys {ts ts' : Tw} {k : Int} {i : Nat} (hp : Pl ts k i) (h : ts'.map (·.1) = ts.map (·.1)) : Pl ts' k i where
  le := by
    have := congrArg List.length h
    rw [List.length_map, List.length_map] at this
    have := hp.le
    omega
  lt := fun j q hq => by
    have e : (ts.map (·.1))[j]? = some q.1 := by rw [← h, List.getElem?_map, hq]; rfl
    rw [List.getElem?_map] at e
    obtain ⟨q', h1, h2⟩ := Option.map_eq_some_iff.mp e
    rw [← h2]
    exact hp.lt j q' h1
theorem withH_keys : ∀ {ts : Tw} {hs : List Int}, hs.length = ts.length → (withH ts hs).map (·.1) = ts.map (·.1)
  | [], [], _ => rfl
  | q :: ts, h :: hs, e => by
    show q.1 :: (withH ts hs).map (·.1) = _
    rw [withH_keys (by simpa using e)]
    rfl
theorem withH_hts : ∀ {ts : Tw} {hs : List Int}, hs.length = ts.length → (withH ts hs).map (·.2) = hs
  | [], [], _ => rfl
  | q :: ts, h :: hs, e => by
    show h :: (withH ts hs).map (·.2) = _
    rw [withH_hts (by simpa using e)]
theorem withH_app {t1 t2 : Tw} {h1 h2 : List Int} (e : h1.length = t1.length) : withH (t1 ++ t2) (h1 ++ h2) = withH t1 h1 ++ withH t2 h2 := by
  unfold withH
  exact List.zipWith_append e.symm
theorem withH_again : ∀ (ts : Tw) (hs r : List Int), hs.length = ts.length → withH (withH ts hs) r = withH ts r
  | [], [], _, _ => rfl
  | q :: ts, h :: hs, [], _ => rfl
  | q :: ts, h :: hs, x :: r, e => by
    show (q.1, x) :: withH (withH ts hs) r = (q.1, x) :: withH ts r
    rw [withH_again ts hs r (by simpa using e)]
end Tk
end

section
set_option Elab.async false
set_option linter.all false
set_option maxRecDepth 100000
set_option maxHeartbeats 1000000
/-! k67: a key taken out, as the program does it, 2. -/
namespace Tk
open PySem PySem.Spec PyProof.Rows L2 Evl Tb Fd
theorem e_check_gaps {ts : Tw} (b c : Bool) (h : okT none ts) (hl : ts.length ≤ 40000) (ht : maxOf 0 (ts.map (·.2)) ≤ 900000) (h0 : 0 ≤ maxOf 0 (ts.map (·.2))) (hg : gapAll (ts.map (·.2)) 1 3 (maxOf 0 (ts.map (·.2))).toNat = true) : F__check_gaps [twD b c ts] = some .none := by
  have h1 := e_check_towers b c h
  have h2 := e__is_gapped b c 1 3 hl ht h0
  rw [hg] at h2
  generalize twD b c ts = T at *
  simp [F__check_gaps, fnD, m__check_gaps, init, h1, h2, retD]
abbrev lcH (k : Nat) : Dn (List PyData) := dLc (dItems (dVar k)) (dRow 2 (dGs (dName 6) (dGs (dName 7) dNil))) (dK true) (dVar 7) [6, 7]
theorem out_run {T T1 R Res : PyData} {HH HH1 H2 H3 : List PyData} {key i h : Int} {l' : PyData} (hcg : F__check_gaps [T] = some .none) (hhk : F_has_key [T, .int key] = some (.bool true)) (hcb : F_count_below [T, .int key] = some (.int i))
    (hl1 : lcH 0 [.d T, .d (.int key), .d (.int i), .no, .no, .no, .no, .no] = some (HH, [.d T, .d (.int key), .d (.int i), .no, .no, .no, .no, .no]))
    (hix : atI HH i = some (.int h)) (hset : (¬ 1 < h ∧ HH1 = HH) ∨ (1 < h ∧ ∃ j, ixN HH.length (i - 1) = some j ∧ HH.set j (.int h) = HH1))
    (hwh : F__with_heights [T, .list HH1] = some T1) (hwo : F_without_key [T1, .int key] = some R)
    (hl2 : lcH 4 [.d T, .d (.int key), .d (.int i), .d (.list HH1), .d R, .no, .no, .no] = some (H2, [.d T, .d (.int key), .d (.int i), .d (.list HH1), .d R, .no, .no, .no]))
    (hlp : sWhile (dTru (dCallM 3 2 F__fill_gap (dCons (dVar 5) (dK [])))) m_out_gapped_L1 [.d T, .d (.int key), .d (.int i), .o H2, .d R, .d (.int 1), .no, .no] = some (.nx [.d T, .d (.int key), .d (.int i), .o H3, .d R, .d l', .no, .no]))
    (hw2 : F__with_heights [R, .list H3] = some Res) : F_out_gapped [T, .int key] = some Res := by
  have hck := e_check_key key
  unfold lcH at hl1 hl2
  rcases hset with ⟨c, rfl⟩ | ⟨c, j, hj, rfl⟩
  · simp [F_out_gapped, fnD, m_out_gapped, init, hcg, hck, hhk, hcb, setD, canSet, setO, hl1, dIxV, ownL, hix, c, hwh, hwo, hl2, hlp, hw2, retD]
  · simp [F_out_gapped, fnD, m_out_gapped, init, hcg, hck, hhk, hcb, setD, canSet, setO, hl1, dIxV, ownL, hix, c, hj, sSetIx, putL, hwh, hwo, hl2, hlp, hw2, retD]
theorem e_out {U V : Tw} {key h : Int} (b c : Bool) (o : okT none (U ++ (key, h) :: V)) (hg : F__check_gaps [twD b c (U ++ (key, h) :: V)] = some .none) (hl : (U ++ (key, h) :: V).length ≤ 1000) {hU r : List Int}
    (hu : (h = 1 ∧ hU = U.map (·.2)) ∨ (1 < h ∧ ∃ U1 u, U = U1 ++ [u] ∧ hU = U1.map (·.2) ++ [h])) (lp : Lp 1 (hU ++ V.map (·.2)) r) : F_out_gapped [twD b c (U ++ (key, h) :: V), .int key] = some (twD false false (withH (U ++ V) r)) ∧ r.length = (U ++ V).length := by
  have pl := pl_mid o
  have tl : (U ++ (key, h) :: V).length = U.length + (V.length + 1) := by rw [List.length_append, List.length_cons]
  have hq : (U ++ (key, h) :: V)[U.length]? = some (key, h) := by simp
  have uL : hU.length = U.length := by
    rcases hu with ⟨_, rfl⟩ | ⟨_, U1, u, rfl, rfl⟩ <;> simp
  have e1 : withH (U ++ (key, h) :: V) (hU ++ h :: V.map (·.2)) = withH U hU ++ (key, h) :: withH V (V.map (·.2)) := by
    rw [withH_app uL]
    rfl
  have l1 : (hU ++ h :: V.map (·.2)).length = (U ++ (key, h) :: V).length := by simp [uL]
  have pl2 := pl_keys pl (withH_keys l1)
  have w1 := e_with_heights b c (U ++ (key, h) :: V) (hU ++ h :: V.map (·.2)) (by omega)
  have w2 := e_without_key false false pl2 (by have := withH_len (U ++ (key, h) :: V) (hU ++ h :: V.map (·.2)); omega)
  have uL2 : (withH U hU).length = U.length := by
    have := congrArg List.length (withH_keys uL)
    rw [List.length_map, List.length_map] at this
    exact this
  have e2 : (withH (U ++ (key, h) :: V) (hU ++ h :: V.map (·.2))).take U.length ++ (withH (U ++ (key, h) :: V) (hU ++ h :: V.map (·.2))).drop (U.length + 1) = withH (U ++ V) (hU ++ V.map (·.2)) := by
    rw [e1, ← uL2, take0, drop1, withH_app uL]
  rw [e2] at w2
  have l2 : (hU ++ V.map (·.2)).length = (U ++ V).length := by simp [uL]
  have uvl : (U ++ V).length ≤ 1000 := by rw [List.length_append]; omega
  have l3 : (withH (U ++ V) (hU ++ V.map (·.2))).length = (U ++ V).length := by
    have := congrArg List.length (withH_keys l2)
    rw [List.length_map, List.length_map] at this
    exact this
  obtain ⟨rl, k, l', lw⟩ := loop67 (T := twD b c (U ++ (key, h) :: V)) (K := .int key) (P := .int (U.length : Int)) (R := twD false false (withH (U ++ V) (hU ++ V.map (·.2)))) lp (by omega)
  have w3 := e_with_heights false false (withH (U ++ V) (hU ++ V.map (·.2))) r (by omega)
  rw [withH_again _ _ _ l2] at w3
  have c1 := lc_heights (ts := U ++ (key, h) :: V) b c [.d (twD b c (U ++ (key, h) :: V)), .d (.int key), .d (.int (U.length : Int)), .no, .no, .no, .no, .no] 6 7 0 rfl (by omega) rfl rfl fun p => ⟨[.d (twD b c (U ++ (key, h) :: V)), .d (.int key), .d (.int (U.length : Int)), .no, .no, .no, .d (.int p.1), .d (.int p.2)], by
    have : itemsOf (Tb.prD c p) = some [.int p.1, .int p.2] := items_rowsD ..
    simp [this, setD, canSet, wipeE], rfl, rfl⟩
  have c2 := lc_heights (ts := withH (U ++ V) (hU ++ V.map (·.2))) false false [.d (twD b c (U ++ (key, h) :: V)), .d (.int key), .d (.int (U.length : Int)), .d (.list ((hU ++ h :: V.map (·.2)).map .int)), .d (twD false false (withH (U ++ V) (hU ++ V.map (·.2)))), .no, .no, .no] 6 7 4 rfl (by omega) rfl rfl fun p => ⟨[.d (twD b c (U ++ (key, h) :: V)), .d (.int key), .d (.int (U.length : Int)), .d (.list ((hU ++ h :: V.map (·.2)).map .int)), .d (twD false false (withH (U ++ V) (hU ++ V.map (·.2)))), .no, .d (.int p.1), .d (.int p.2)], by
    have : itemsOf (Tb.prD false p) = some [.int p.1, .int p.2] := items_rowsD ..
    simp [this, setD, canSet, wipeE], rfl, rfl⟩
  rw [withH_hts l2] at c2
  refine ⟨out_run (i := (U.length : Int)) (h := h) hg (e_has_key b c pl hq rfl) (e_count_belowP b c pl) c1 ?_ ?_ w1 w2 c2 (sWhile_eq lw) w3, by omega⟩
  · exact at_nat (by rw [List.getElem?_map, List.getElem?_map, hq]; rfl)
  · rcases hu with ⟨rfl, rfl⟩ | ⟨h1, U1, u, rfl, rfl⟩
    · exact .inl ⟨by omega, by simp⟩
    · refine .inr ⟨h1, U1.length, ?_, ?_⟩
      · have : (((U1 ++ [u]).length : Nat) : Int) - 1 = (U1.length : Int) := by simp
        rw [this]
        exact ixN_nat (by rw [List.length_map, List.length_map]; simp)
      · have e3 : ((U1 ++ [u] ++ (key, h) :: V).map (·.2)).map PyData.int = ((U1.map (·.2)) ++ u.2 :: (h :: V.map (·.2))).map .int := by simp
        rw [e3]
        have := set_int (U1.map (·.2)) (h :: V.map (·.2)) u.2 h
        rw [List.length_map] at this
        rw [this]
        simp
end Tk
end

section
set_option Elab.async false
set_option linter.all false
set_option maxRecDepth 100000
set_option maxHeartbeats 1000000
/-! k67: rows of trees. -/
namespace Tk
open PySem PySem.Spec PyProof.Rows L2 Evl Tb Fd
theorem gapF_own {l : Int} : ∀ (hs : List Int) (g : Int), (∀ h ∈ hs, h ≤ l) → gapF l g hs = [g + ((hs.filter (· = l)).length : Int)]
  | [], g, _ => by simp [gapF]
  | h :: hs, g, hh => by
    have h1 := hh h List.mem_cons_self
    have ih := fun g => gapF_own hs g fun z hz => hh z (List.mem_cons_of_mem _ hz)
    rw [gapF, if_neg (by omega)]
    by_cases c : h = l
    · rw [if_pos c, ih, List.filter_cons, if_pos (decide_eq_true c), List.length_cons]
      congr 1
      omega
    · rw [if_neg c, ih, List.filter_cons, if_neg (by simpa using c)]
theorem gapF_weave {l x : Int} (hx : l < x) : ∀ (P : List (List Int)) (K : List Int), P.length = K.length + 1 → (∀ k ∈ K, k = x) → ∀ g ∈ gapF l 0 (weave P K), ∃ p ∈ P, g ∈ gapF l 0 p
  | [p], [], _, _, g, hg => ⟨p, List.mem_cons_self, hg⟩
  | p :: q :: P, k :: K, h, hk, g, hg => by
    have := hk k List.mem_cons_self
    subst this
    rw [weave, gapF_sep hx] at hg
    rcases List.mem_append.mp hg with hg | hg
    · exact ⟨p, List.mem_cons_self, hg⟩
    · obtain ⟨p', h1, h2⟩ := gapF_weave hx (q :: P) K (by simpa using h) (fun z hz => hk z (List.mem_cons_of_mem _ hz)) g hg
      exact ⟨p', List.mem_cons_of_mem _ h1, h2⟩
theorem gaps_ok : ∀ (n : Nat) (t : Tr n), okN n t → ∀ l : Int, 1 ≤ l → l ≤ (n : Int) → ∀ g ∈ gapF l 0 (H n t), 1 ≤ g ∧ g ≤ 3
  | 0, t, ho, l, h1, h2, g, hg => by exfalso; have : l ≤ 0 := h2; omega
  | n + 1, t, ho, l, h1, h2, g, hg => by
    obtain ⟨lo, hk, hlen⟩ := H_low ho
    have e : H (n + 1) t = weave (t.ps.map (H n)) (t.ks.map fun _ => (n : Int) + 1) := rfl
    by_cases c : l = (n : Int) + 1
    · subst c
      rw [gapF_own _ _ fun h hh => by have := H_le (n + 1) t ho h hh; omega, e, filt_weave _ _ hlen lo hk, List.length_map] at hg
      have := List.mem_singleton.mp hg
      have a := ho.2.1
      have b := ho.2.2.1
      omega
    · rw [e] at hg
      obtain ⟨p, hp, hg⟩ := gapF_weave (x := (n : Int) + 1) (by omega) _ _ hlen hk g hg
      obtain ⟨q, hq, rfl⟩ := List.mem_map.mp hp
      exact gaps_ok n q (ho.2.2.2 q hq) l h1 (by omega) g hg
theorem H_max : ∀ (n : Nat) (t : Tr n), okN n t → maxOf 0 (H n t) = (n : Int) := fun n t ho => by
  have h1 : maxOf 0 (H n t) ≤ (n : Int) := maxOf_le (by omega) fun x hx => (H_le n t ho x hx).2
  have h2 := maxOf_facts fun x hx => (H_le n t ho x hx).1
  cases n with
  | zero =>
    have := h2.1
    omega
  | succ n =>
    obtain ⟨lo, hk, hlen⟩ := H_low ho
    have hm : (n : Int) + 1 ∈ H (n + 1) t := by
      have hne : t.ks ≠ [] := fun z => by
        have := ho.2.1
        rw [z] at this
        cases this
      obtain ⟨k, hk'⟩ := List.exists_mem_of_ne_nil _ hne
      exact (mem_weave hlen).mpr (.inl (List.mem_map.mpr ⟨k, hk', rfl⟩))
    have := h2.2 _ hm
    have e : ((n + 1 : Nat) : Int) = (n : Int) + 1 := rfl
    omega
theorem H_gapAll {n : Nat} {t : Tr n} (ho : okN n t) : gapAll (H n t) 1 3 (maxOf 0 (H n t)).toNat = true := by
  rw [H_max n t ho, Int.toNat_natCast]
  unfold gapAll
  rw [List.all_eq_true]
  intro i hi
  have hi2 := List.mem_range.mp hi
  rw [List.all_eq_true]
  intro g hg
  obtain ⟨a, b⟩ := gaps_ok n t ho (1 + (i : Int)) (by omega) (by omega) g hg
  unfold inB
  rw [decide_eq_true a, decide_eq_true b]
  rfl
theorem pre_map {α β : Type} (f : α → β) : ∀ (P : List (List α)) (K : List α), (pre P K).map f = pre (P.map (List.map f)) (K.map f)
  | [], _ => by simp [pre]
  | _ :: _, [] => by simp [pre]
  | p :: P, k :: K => by simp [pre, pre_map f P K]
theorem suf_map {α β : Type} (f : α → β) : ∀ (K : List α) (P : List (List α)), (suf K P).map f = suf (K.map f) (P.map (List.map f))
  | [], _ => by simp [suf]
  | _ :: _, [] => by simp [suf]
  | k :: K, p :: P => by simp [suf, suf_map f K P]
theorem H_list (n : Nat) (P : List (Tr n)) : (P.map (flat n)).map (List.map (·.2)) = P.map (H n) := by
  rw [List.map_map]
  apply List.map_congr_left
  intro p _
  exact H_flat n p
theorem flat_parts {n : Nat} {t : Tr (n + 2)} {key : Int} {K1 K2 : List Int} {P1 : List (Tr (n + 1))} {c : Tr (n + 1)} {P2 : List (Tr (n + 1))} (A : At2 t key K1 K2 P1 c P2) :
    flat (n + 2) t = pre (P1.map (flat (n + 1))) (K1.map fun k => (k, (n : Int) + 2)) ++ flat (n + 1) c ++ suf (K2.map fun k => (k, (n : Int) + 2)) (P2.map (flat (n + 1))) := by
  have e : flat (n + 2) t = weave (t.ps.map (flat (n + 1))) (t.ks.map fun k => (k, ((n + 1 : Nat) : Int) + 1)) := rfl
  have e2 : ((n + 1 : Nat) : Int) + 1 = (n : Int) + 2 := by omega
  rw [e, e2, A.ks, A.ps, List.map_append, List.map_append, List.map_cons]
  exact weave_mid _ (by rw [List.length_map, List.length_map]; exact A.l1) (by rw [List.length_map, List.length_map]; exact A.l2)
theorem one_last {U U2 V : Tw} {k h0 h1 : Int} (hs : srt ((U2 ++ [(k, h1)]).map (·.1))) (e : U2 ++ [(k, h1)] = U ++ (k, h0) :: V) : U = U2 ∧ h0 = h1 ∧ V = [] := by
  rcases List.eq_nil_or_concat V with rfl | ⟨V', z, rfl⟩
  · have := List.append_inj' e rfl
    obtain ⟨a, b⟩ := this
    cases b
    exact ⟨a.symm, rfl, rfl⟩
  · exfalso
    have e2 : U2 ++ [(k, h1)] = (U ++ (k, h0) :: V') ++ [z] := by rw [e]; simp
    obtain ⟨a, b⟩ := List.append_inj' e2 rfl
    cases b
    rw [a, List.map_append, List.map_append] at hs
    have h3 := (List.pairwise_append.mp hs).2.2 k (by simp) k (by simp)
    omega
theorem rm_out : ∀ (n : Nat) (t : Tr (n + 1)) (key : Int), okN (n + 1) t → srt (keysT (n + 1) t) → key ∈ keysT (n + 1) t → ∃ (U V : Tw) (h : Int) (hU : List Int), flat (n + 1) t = U ++ (key, h) :: V ∧
    ((h = 1 ∧ hU = U.map (·.2)) ∨ (1 < h ∧ ∃ U1 u, U = U1 ++ [u] ∧ hU = U1.map (·.2) ++ [h])) ∧ Rm n t key = hU ++ V.map (·.2)
  | 0, t, key, ho, hs, hk => by
    have k1 := keys1 ho.1
    rw [k1] at hs hk
    obtain ⟨K1, K2, hkk⟩ := List.append_of_mem hk
    have hf : flat 1 t = t.ks.map fun k => (k, (1 : Int)) := leaf_weave _ _ (by rw [List.length_map, List.length_map]; exact ho.1) fun p hp => by
      obtain ⟨q, _, rfl⟩ := List.mem_map.mp hp
      rfl
    have hfi : (t.ks.filter fun k => decide (k ≠ key)) = K1 ++ K2 := by rw [hkk] at hs ⊢; exact filt_ne hs
    refine ⟨K1.map fun k => (k, 1), K2.map fun k => (k, 1), 1, (K1.map fun k => (k, (1 : Int))).map (·.2), ?_, .inl ⟨rfl, rfl⟩, ?_⟩
    · rw [hf, hkk, List.map_append, List.map_cons]
    · rw [Rm, hfi, List.map_append, List.map_map, List.map_map]
      rfl
  | n + 1, t, key, ho, hs, hk => by
    obtain ⟨K1, K2, P1, c, P2, A⟩ := at2 ho hs hk
    have cps : c ∈ t.ps := by rw [A.ps]; exact List.mem_append_right _ List.mem_cons_self
    have oc := ho.2.2.2 c cps
    have hs2 := hs
    rw [A.keys] at hs2
    have sc : srt (keysT (n + 1) c) := (List.pairwise_append.mp (List.pairwise_append.mp hs2).1).2.1
    obtain ⟨K2', B⟩ := at3 A oc
    have F := flat_parts A
    obtain ⟨U, V, h, hU, i1, i2, i3⟩ := rm_out n c (kyOf t key) oc sc B.inn
    have eX : (pre (P1.map (flat (n + 1))) (K1.map fun k => (k, (n : Int) + 2))).map (·.2) = pre (P1.map (H (n + 1))) (K1.map fun _ => (n : Int) + 2) := by
      rw [pre_map, H_list, List.map_map]
      rfl
    have eY : ∀ (K : List Int) (P : List (Tr (n + 1))), (suf (K.map fun k => (k, (n : Int) + 2)) (P.map (flat (n + 1)))).map (·.2) = suf (K.map fun _ => (n : Int) + 2) (P.map (H (n + 1))) := fun K P => by
      rw [suf_map, H_list, List.map_map]
      rfl
    have R := B.rme
    rw [← eX, ← eY, i3] at R
    generalize pre (P1.map (flat (n + 1))) (K1.map fun k => (k, (n : Int) + 2)) = X at *
    rcases B.kcs with ⟨hm, hky, K3, rfl, rfl⟩ | ⟨hm, hky, rfl⟩
    · match P2, A.l2 with
      | p :: P3, lq =>
        have e0 : suf ((key :: K3).map fun k => (k, (n : Int) + 2)) ((p :: P3).map (flat (n + 1))) = (key, (n : Int) + 2) :: (flat (n + 1) p ++ suf (K3.map fun k => (k, (n : Int) + 2)) (P3.map (flat (n + 1)))) := rfl
        rw [e0] at F R
        generalize flat (n + 1) p ++ suf (K3.map fun k => (k, (n : Int) + 2)) (P3.map (flat (n + 1))) = Y at *
        obtain ⟨U2, hU2⟩ := last_flat n c oc
        rw [hky] at i1
        have sk : srt (List.map (fun q : Int × Int => q.1) (U2 ++ [(lastK n c, (1 : Int))])) := by rw [← hU2, keys_flat]; exact sc
        obtain ⟨rfl, rfl, rfl⟩ := one_last sk (hU2.symm.trans i1)
        rcases i2 with ⟨_, rfl⟩ | ⟨z, _⟩
        · refine ⟨X ++ (U ++ [(lastK n c, 1)]), Y, (n : Int) + 2, (X ++ U).map (·.2) ++ [(n : Int) + 2], ?_, .inr ⟨by omega, X ++ U, (lastK n c, 1), by simp, rfl⟩, ?_⟩
          · rw [F, hU2]
          · rw [R]
            simp
        · omega
    · rw [hky] at i1
      refine ⟨X ++ U, V ++ suf (K2'.map fun k => (k, (n : Int) + 2)) (P2.map (flat (n + 1))), h, X.map (·.2) ++ hU, ?_, ?_, ?_⟩
      · rw [F, i1]
        simp
      · rcases i2 with ⟨a, rfl⟩ | ⟨a, U1, u, rfl, rfl⟩
        · exact .inl ⟨a, by simp⟩
        · exact .inr ⟨a, X ++ U1, u, by simp, by simp⟩
      · rw [R]
        simp
/-! ### rows that trees have -/
def Sh : Nat → List Int → Prop
  | 0, hs => hs = []
  | n + 1, hs => ∃ (P : List (List Int)) (k : Nat), P.length = k + 1 ∧ 1 ≤ k ∧ k ≤ 3 ∧ (∀ p ∈ P, Sh n p) ∧ hs = weave P (List.replicate k ((n : Int) + 1))
theorem split_rows (x : Int) : ∀ (P : List (List Int)) (k : Nat) (F : Tw), P.length = k + 1 → F.map (·.2) = weave P (List.replicate k x) → ∃ (Q : List Tw) (K : List Int), Q.map (List.map (·.2)) = P ∧ K.length = k ∧ F = weave Q (K.map fun z => (z, x))
  | [p], 0, F, _, h => ⟨[F], [], by rw [List.map_cons, h]; rfl, rfl, rfl⟩
  | p :: q :: P, k + 1, F, hl, h => by
    rw [List.replicate_succ, weave] at h
    obtain ⟨F1, F2, rfl, h1, h2⟩ := List.map_eq_append_iff.mp h
    obtain ⟨f, F3, rfl, h3, h4⟩ := List.map_eq_cons_iff.mp h2
    obtain ⟨Q, K, a1, a2, a3⟩ := split_rows x (q :: P) k F3 (by simpa using hl) h4
    refine ⟨F1 :: Q, f.1 :: K, by rw [List.map_cons, h1, a1], by rw [List.length_cons, a2], ?_⟩
    rw [List.map_cons, weave, ← a3, ← h3]
theorem tree_list {n : Nat} (ih : ∀ F : Tw, Sh n (F.map (·.2)) → ∃ t, okN n t ∧ flat n t = F) : ∀ (Q : List Tw), (∀ q ∈ Q, Sh n (q.map (·.2))) → ∃ ts : List (Tr n), ts.map (flat n) = Q ∧ ∀ t ∈ ts, okN n t
  | [], _ => ⟨[], rfl, fun _ h => nomatch h⟩
  | q :: Q, h => by
    obtain ⟨t, h1, h2⟩ := ih q (h q List.mem_cons_self)
    obtain ⟨ts, h3, h4⟩ := tree_list ih Q fun z hz => h z (List.mem_cons_of_mem _ hz)
    exact ⟨t :: ts, by rw [List.map_cons, h2, h3], fun z hz => by
      rcases List.mem_cons.mp hz with rfl | hz
      · exact h1
      · exact h4 z hz⟩
theorem tree_of : ∀ (n : Nat) (F : Tw), Sh n (F.map (·.2)) → ∃ t, okN n t ∧ flat n t = F
  | 0, F, h => ⟨(), trivial, (List.map_eq_nil_iff.mp h).symm⟩
  | n + 1, F, ⟨P, k, h1, h2, h3, h4, h5⟩ => by
    obtain ⟨Q, K, a1, a2, rfl⟩ := split_rows _ P k F h1 h5
    obtain ⟨ts, b1, b2⟩ := tree_list (tree_of n) Q fun q hq => h4 _ (by rw [← a1]; exact List.mem_map.mpr ⟨q, hq, rfl⟩)
    refine ⟨mkT K ts, ⟨?_, by rw [ks_mk, a2]; exact h2, by rw [ks_mk, a2]; exact h3, b2⟩, ?_⟩
    · rw [ps_mk, ks_mk, a2]
      have e := congrArg List.length b1
      have e2 := congrArg List.length a1
      rw [List.length_map] at e e2
      omega
    · show weave ((mkT K ts).ps.map (flat n)) ((mkT K ts).ks.map fun k => (k, (n : Int) + 1)) = _
      rw [ps_mk, ks_mk, b1]
end Tk
end

section
set_option Elab.async false
set_option linter.all false
set_option maxRecDepth 100000
set_option maxHeartbeats 1000000
/-! k67: what the program makes of a tree. -/
namespace Tk
open PySem PySem.Spec PyProof.Rows L2 Evl Tb Fd
theorem okT_of : ∀ {F : Tw} {p : Option Int}, srt (F.map (·.1)) → (∀ q ∈ F, 1 ≤ q.2) → (∀ x, p = some x → ∀ q ∈ F, x < q.1) → okT p F
  | [], _, _, _, _ => trivial
  | q :: F, p, hs, h1, hp => by
    rw [List.map_cons] at hs
    obtain ⟨a, b⟩ := List.pairwise_cons.mp hs
    refine ⟨fun x hx => hp x hx q List.mem_cons_self, h1 q List.mem_cons_self, okT_of b (fun z hz => h1 z (List.mem_cons_of_mem _ hz)) fun x hx z hz => ?_⟩
    cases hx
    exact a z.1 (List.mem_map.mpr ⟨z, hz, rfl⟩)
theorem withH_self : ∀ {ts F : Tw}, ts.map (·.1) = F.map (·.1) → withH ts (F.map (·.2)) = F
  | [], [], _ => rfl
  | [], _ :: _, h => by cases h
  | _ :: _, [], h => by cases h
  | q :: ts, f :: F, h => by
    rw [List.map_cons, List.map_cons] at h
    obtain ⟨a, b⟩ := List.cons.inj h
    show (q.1, f.2) :: withH ts (F.map (·.2)) = f :: F
    rw [withH_self b, a]
theorem flat_ok {n : Nat} {t : Tr n} (ho : okN n t) : ∀ q ∈ flat n t, 1 ≤ q.2 ∧ q.2 ≤ (n : Int) := fun q hq => by
  have : q.2 ∈ H n t := by
    rw [← H_flat]
    exact List.mem_map.mpr ⟨q, hq, rfl⟩
  exact H_le n t ho q.2 this
theorem srt_filter {xs : List Int} (p : Int → Bool) (h : srt xs) : srt (xs.filter p) := List.Pairwise.sublist List.filter_sublist h
theorem gapped_tree {m : Nat} {u : Tr m} (b c : Bool) (ho : okN m u) (hs : srt ((flat m u).map (·.1))) (hl : (flat m u).length ≤ 40000) (hm : m ≤ 10) : okT none (flat m u) ∧ F__check_gaps [twD b c (flat m u)] = some .none ∧ F_is_gapped [twD b c (flat m u), .int 1, .int 3] = some (.bool true) := by
  have o : okT none (flat m u) := okT_of hs (fun q hq => (flat_ok ho q hq).1) fun x hx => nomatch hx
  have e := H_flat m u
  have mx := H_max m u ho
  have ga := H_gapAll ho
  rw [← e] at mx ga
  have z := e_is_gapped b c (l := 1) (m := 3) o (by decide) (by decide) (by decide) hl (by rw [mx]; omega) (by rw [mx]; omega)
  rw [ga] at z
  exact ⟨o, e_check_gaps b c o hl (by rw [mx]; omega) (by rw [mx]; omega) ga, z⟩
theorem out_tree {n : Nat} {t : Tr (n + 1)} {key : Int} (ho : okN (n + 1) t) (hs : srt (keysT (n + 1) t)) (hk : key ∈ keysT (n + 1) t) (hl : (flat (n + 1) t).length ≤ 1000) (hn : n ≤ 9) :
    (∀ b c, F_out_gapped [twD b c (flat (n + 1) t), .int key] = some (twD false false (flat (n + 1) (tk n t key)))) ∧ F_is_gapped [twD false false (flat (n + 1) (tk n t key)), .int 1, .int 3] = some (.bool true) ∧
    (flat (n + 1) (tk n t key)).map (·.1) = ((flat (n + 1) t).map (·.1)).filter (fun k => decide (k ≠ key)) ∧ (flat (n + 1) (tk n t key)).length ≤ 1000 := by
  obtain ⟨ma, mb⟩ := main67 n t key ho hs hk [] [] fun l _ _ => ⟨.nil, .nil⟩
  simp only [List.nil_append, List.append_nil] at ma mb
  have key' : (flat (n + 1) (tk n t key)).map (·.1) = ((flat (n + 1) t).map (·.1)).filter (fun k => decide (k ≠ key)) := by
    rw [keys_flat, keys_flat]
    exact keys_tk n t key ho hs hk
  obtain ⟨m, u, hm, ou, fu, lp⟩ : ∃ (m : Nat) (u : Tr m), m ≤ n + 1 ∧ okN m u ∧ flat m u = flat (n + 1) (tk n t key) ∧ Lp 1 (Rm n t key) (H m u) := by
    by_cases ce : (tk n t key).ks = []
    · obtain ⟨⟨c, hc, oc⟩, h⟩ := mb ce
      have eta : tk n t key = mkT [] [c] := by
        have := mk_eta (tk n t key)
        rw [ce, hc] at this
        exact this.symm
      refine ⟨n, c, Nat.le_succ n, oc, by rw [eta]; rfl, h _ ?_⟩
      rw [eta]
      refine .done (.root fun x hx => ?_)
      have := H_le n c oc x hx
      omega
    · obtain ⟨a, b⟩ := ma ce
      exact ⟨n + 1, _, Nat.le_refl _, a, rfl, b⟩
  have sres : srt ((flat m u).map (·.1)) := by
    rw [fu, key', keys_flat]
    exact srt_filter _ hs
  obtain ⟨U, V, h, hU, i1, i2, i3⟩ := rm_out n t key ho hs hk
  have skey : srt ((flat (n + 1) t).map (·.1)) := by rw [keys_flat]; exact hs
  have kuv : (U ++ V).map (·.1) = (flat m u).map (·.1) := by
    rw [fu, key', i1, List.map_append, List.map_append, List.map_cons]
    rw [i1, List.map_append, List.map_cons] at skey
    exact (filt_ne skey).symm
  have el : (flat m u).length = (U ++ V).length := by
    have := congrArg List.length kuv
    rw [List.length_map, List.length_map] at this
    exact this.symm
  have ll : (flat m u).length ≤ 1000 := by
    rw [el, List.length_append]
    rw [i1, List.length_append, List.length_cons] at hl
    omega
  refine ⟨fun b c => ?_, ?_, key', by rw [← fu]; exact ll⟩
  · obtain ⟨o, g, _⟩ := gapped_tree (m := n + 1) b c ho skey (by omega) (by omega)
    rw [i1] at o g hl ⊢
    rw [i3] at lp
    obtain ⟨e, _⟩ := e_out b c o g hl i2 lp
    rw [e, ← fu, ← H_flat, withH_self kuv]
  · rw [← fu]
    exact (gapped_tree false false ou sres (by omega) (by omega)).2.2
end Tk
end

section
set_option Elab.async false
set_option linter.all false
set_option maxRecDepth 100000
set_option maxHeartbeats 1000000
/-! k67: the law's trees. -/
namespace Tk
open PySem PySem.Spec PyProof.Rows L2 Evl Tb Fd
abbrev kD (ks : List Int) : PyData := .tuple (ks.map .int)
def trD : (n : Nat) → Tr (n + 1) → PyData
  | 0, t => .tuple [kD t.ks, .tuple []]
  | n + 1, t => .tuple [kD t.ks, .tuple (t.ps.map (trD n))]
def psD : (n : Nat) → Tr (n + 1) → List PyData
  | 0, _ => []
  | n + 1, t => t.ps.map (trD n)
theorem trD_eq : ∀ {n : Nat} (t : Tr (n + 1)), trD n t = .tuple [kD t.ks, .tuple (psD n t)]
  | 0, _ => rfl
  | _ + 1, _ => rfl
theorem okD_tr : ∀ (n : Nat) (t : Tr (n + 1)), okD (2 * n + 2) (trD n t) = true
  | 0, t => by
    show ([kD t.ks, .tuple []] : List PyData).all (okD 1) = true
    rw [List.all_cons, List.all_cons]
    have : okD 1 (kD t.ks) = true := okD_ints 0 t.ks
    rw [this]
    rfl
  | n + 1, t => by
    show ([kD t.ks, .tuple (t.ps.map (trD n))] : List PyData).all (okD (2 * n + 3)) = true
    rw [List.all_cons, List.all_cons]
    have h1 : okD (2 * n + 3) (kD t.ks) = true := okD_ints (2 * n + 2) t.ks
    have h2 : okD (2 * n + 3) (.tuple (t.ps.map (trD n))) = true := by
      show (t.ps.map (trD n)).all (okD (2 * n + 2)) = true
      rw [List.all_eq_true]
      intro d hd
      obtain ⟨p, _, rfl⟩ := List.mem_map.mp hd
      exact okD_tr n p
    rw [h1, h2]
    rfl
theorem okD_ps (n : Nat) (t : Tr (n + 1)) : okD (2 * n + 2) (.tuple (psD n t)) = true := by
  cases n with
  | zero => rfl
  | succ n =>
    show (t.ps.map (trD n)).all (okD (2 * (n + 1) + 1)) = true
    rw [List.all_eq_true]
    intro d hd
    obtain ⟨p, _, rfl⟩ := List.mem_map.mp hd
    have up : ∀ (m : Nat) (d : PyData), okD m d = true → okD (m + 1) d = true := by
      intro m
      induction m with
      | zero => intro d h; cases d <;> first | rfl | exact Bool.noConfusion (show false = true from h)
      | succ m ih =>
        intro d h
        cases d with
        | list xs =>
          show xs.all (okD (m + 1)) = true
          rw [List.all_eq_true]
          intro x hx
          exact ih x (List.all_eq_true.mp (show xs.all (okD m) = true from h) x hx)
        | tuple xs =>
          show xs.all (okD (m + 1)) = true
          rw [List.all_eq_true]
          intro x hx
          exact ih x (List.all_eq_true.mp (show xs.all (okD m) = true from h) x hx)
        | none => rfl
        | bool b => rfl
        | int i => rfl
        | str x => exact Bool.noConfusion (show false = true from h)
        | dict x => exact Bool.noConfusion (show false = true from h)
    exact up _ _ (okD_tr n p)
theorem shaped_nil : SeqAt.shaped (.tuple []) = true := okD_shaped (n := 1) rfl (by decide)
theorem eq_nil {m : Nat} {xs : List PyData} (h : okD m (.tuple xs) = true) (hm : m ≤ 64) : eqD (.tuple xs) (.tuple []) = some (.bool xs.isEmpty) ∧ neD (.tuple xs) (.tuple []) = some (.bool (!xs.isEmpty)) := by
  have e : PyData.eqv (.tuple xs) (.tuple []) = xs.isEmpty := by
    cases xs <;> simp [PyData.eqv, PyData.eqvAll]
  unfold eqD neD
  rw [okD_shaped h hm, shaped_nil, e]
  exact ⟨rfl, rfl⟩
theorem ix_tr0 {n : Nat} (t : Tr (n + 1)) : ixD (trD n t) (.int 0) = some (kD t.ks) := by
  rw [trD_eq]
  exact at_0 ..
theorem ix_tr1 {n : Nat} (t : Tr (n + 1)) : ixD (trD n t) (.int 1) = some (.tuple (psD n t)) := by
  rw [trD_eq]
  exact at_1 ..
theorem at_last {α : Type} {xs : List α} (h : xs ≠ []) : atI xs (-1) = some (xs.getLast h) := by
  have hp := List.length_pos_iff.mpr h
  unfold atI ixN
  rw [if_neg (by omega), if_pos (by omega)]
  have : ((-1 : Int) + (xs.length : Int)).toNat = xs.length - 1 := by omega
  rw [List.getLast_eq_getElem]
  simp [this]
theorem e_last : ∀ (n d : Nat) (t : Tr (n + 1)), n ≤ 9 → okN (n + 1) t → FR__law_last (d + n + 1) [trD n t] = some (.int (lastK n t))
  | 0, d, t, _, ho => by
    have hne : t.ks ≠ [] := fun z => by
      have := ho.2.1
      rw [z] at this
      cases this
    have e0 := ix_tr0 t
    have e1 := ix_tr1 t
    have eN := (eq_nil (m := 1) (xs := psD 0 t) rfl (by decide)).1
    have el : ixD (kD t.ks) (.int (-1)) = some (.int (t.ks.getLast hne)) := by
      show atI (t.ks.map PyData.int) (-1) = _
      rw [at_last (by simpa using hne), List.getLast_map]
    have hl : lastK 0 t = t.ks.getLast hne := by
      show t.ks.getLastD 0 = _
      rw [List.getLastD_eq_getLast?, List.getLast?_eq_some_getLast hne]
      rfl
    rw [hl]
    show fnD 0 (m__law_last (FR__law_last (d + 0))) _ = _
    generalize trD 0 t = T at *
    generalize kD t.ks = KS at *
    have eN' : eqD (.tuple (psD 0 t)) (.tuple []) = some (.bool true) := eN
    generalize PyData.tuple (psD 0 t) = PS at *
    simp [fnD, m__law_last, init, e0, e1, small, eN', el, retD]
  | n + 1, d, t, hn, ho => by
    have hne : t.ps ≠ [] := fun z => by
      have := ho.1
      rw [z] at this
      cases this
    have e1 := ix_tr1 t
    have eN := (eq_nil (okD_ps (n + 1) t) (by omega)).1
    have ie : (psD (n + 1) t).isEmpty = false := by
      show (t.ps.map (trD n)).isEmpty = false
      cases hp : t.ps with
      | nil => exact absurd hp hne
      | cons _ _ => rfl
    rw [ie] at eN
    have el : ixD (.tuple (psD (n + 1) t)) (.int (-1)) = some (trD n (t.ps.getLast hne)) := by
      show atI (t.ps.map (trD n)) (-1) = _
      rw [at_last (by simpa using hne), List.getLast_map]
    have hl : lastK (n + 1) t = lastK n (t.ps.getLast hne) := by
      show lastK n (t.ps.getLastD default) = _
      rw [List.getLastD_eq_getLast?, List.getLast?_eq_some_getLast hne]
      rfl
    have ih := e_last n d (t.ps.getLast hne) (by omega) (ho.2.2.2 _ (List.getLast_mem hne))
    rw [hl]
    show fnD 0 (m__law_last (FR__law_last (d + n + 1))) _ = _
    generalize trD (n + 1) t = T at *
    generalize PyData.tuple (psD (n + 1) t) = PS at *
    generalize trD n (t.ps.getLast hne) = T2 at *
    generalize FR__law_last (d + n + 1) = R at *
    simp [fnD, m__law_last, init, e1, small, eN, el, ih, retD]
/-! ### a tree of rows -/
theorem keys_weave {x : Int} : ∀ (P : List Tw) (K : List Int), P.length = K.length + 1 → (∀ p ∈ P, ∀ q ∈ p, q.2 < x) → ((weave P (K.map fun k => (k, x))).filter fun q => decide (q.2 = x)).map (·.1) = K
  | [p], [], _, h => by
    show (p.filter _).map _ = []
    rw [List.filter_eq_nil_iff.mpr fun q hq => by have := h p List.mem_cons_self q hq; simp; omega]
    rfl
  | p :: p2 :: P, k :: K, hl, h => by
    rw [List.map_cons, weave, List.filter_append, List.filter_cons, if_pos (by simp), List.filter_eq_nil_iff.mpr fun q hq => by have := h p List.mem_cons_self q hq; simp; omega]
    rw [List.nil_append, List.map_cons, keys_weave (p2 :: P) K (by simpa using hl) fun z hz => h z (List.mem_cons_of_mem _ hz)]
theorem keys_own {n : Nat} {t : Tr (n + 1)} (ho : okN (n + 1) t) : ((flat (n + 1) t).filter fun q => decide (q.2 = (n : Int) + 1)).map (·.1) = t.ks := by
  refine keys_weave _ _ (by rw [List.length_map]; exact ho.1) fun p hp q hq => ?_
  obtain ⟨u, hu, rfl⟩ := List.mem_map.mp hp
  have := (flat_ok (ho.2.2.2 u hu) q hq).2
  omega
theorem lc_key {F : Tw} {lv : Int} (hl : F.length ≤ 40000) : dLc (dItems (dVar 0)) (dRow 2 (dGs (dName 2) (dGs (dName 6) dNil))) (dTest (dOp eqD (dVar 6) (dVar 1))) (dVar 2) [2, 6] [.d (.list (F.map (Tb.prD false))), .d (.int lv), .no, .no, .no, .no, .no, .no] =
    some ((F.filter fun q => decide (q.2 = lv)).map (fun q => .int q.1), [.d (.list (F.map (Tb.prD false))), .d (.int lv), .no, .no, .no, .no, .no, .no]) := by
  refine lc_twP (c := false) (w := [.d (.list (F.map (Tb.prD false))), .d (.int lv), .no, .no, .no, .no, .no, .no]) _ _ (by simp) rfl rfl rfl hl fun q => ?_
  generalize PyData.list (F.map (Tb.prD false)) = FF
  exact ⟨[.d FF, .d (.int lv), .d (.int q.1), .no, .no, .no, .d (.int q.2), .no], by simp [items_pr, setD, canSet], by simp, by simp, rfl⟩
theorem lc_lt {F : Tw} {a b d : PyData} {k : Int} {acc : List PyData} (hl : F.length ≤ 40000) : dLc (dItems (dVar 5)) (dName 7) (dTest (dOp ltD (dOp ixD (dVar 7) (dK (.int 0))) (dVar 2))) (dVar 7) [7] [.d a, .d b, .d (.int k), .d d, .o acc, .d (.list (F.map (Tb.prD false))), .no, .no] =
    some ((F.filter fun q => decide (q.1 < k)).map (Tb.prD false), [.d a, .d b, .d (.int k), .d d, .o acc, .d (.list (F.map (Tb.prD false))), .no, .no]) := by
  refine lc_twP (c := false) (w := [.d a, .d b, .d (.int k), .d d, .o acc, .d (.list (F.map (Tb.prD false))), .no, .no]) _ _ (by simp) rfl rfl rfl hl fun q => ?_
  have e := ix_p0 false q
  generalize PyData.list (F.map (Tb.prD false)) = FF
  generalize Tb.prD false q = Q at *
  exact ⟨[.d a, .d b, .d (.int k), .d d, .o acc, .d FF, .no, .d Q], by simp [setD, canSet], by simp [e], by simp, rfl⟩
theorem lc_gt {F : Tw} {a b d : PyData} {k : Int} {acc : List PyData} (hl : F.length ≤ 40000) : dLc (dItems (dVar 5)) (dName 7) (dTest (dOp gtD (dOp ixD (dVar 7) (dK (.int 0))) (dVar 2))) (dVar 7) [7] [.d a, .d b, .d (.int k), .d d, .o acc, .d (.list (F.map (Tb.prD false))), .no, .no] =
    some ((F.filter fun q => decide (k < q.1)).map (Tb.prD false), [.d a, .d b, .d (.int k), .d d, .o acc, .d (.list (F.map (Tb.prD false))), .no, .no]) := by
  refine lc_twP (c := false) (w := [.d a, .d b, .d (.int k), .d d, .o acc, .d (.list (F.map (Tb.prD false))), .no, .no]) _ _ (by simp) rfl rfl rfl hl fun q => ?_
  have e := ix_p0 false q
  generalize PyData.list (F.map (Tb.prD false)) = FF
  generalize Tb.prD false q = Q at *
  exact ⟨[.d a, .d b, .d (.int k), .d d, .o acc, .d FF, .no, .d Q], by simp [setD, canSet], by simp [e], by simp, rfl⟩
theorem cut_front {F1 F2 : Tw} {k x : Int} (h : srt ((F1 ++ (k, x) :: F2).map (·.1))) : (F1 ++ (k, x) :: F2).filter (fun q => decide (q.1 < k)) = F1 ∧ (F1 ++ (k, x) :: F2).filter (fun q => decide (k < q.1)) = F2 := by
  rw [List.map_append, List.map_cons] at h
  obtain ⟨_, h2, h3⟩ := List.pairwise_append.mp h
  have h4 := (List.pairwise_cons.mp h2).1
  have a1 : ∀ q ∈ F1, q.1 < k := fun q hq => h3 q.1 (List.mem_map.mpr ⟨q, hq, rfl⟩) k List.mem_cons_self
  have a2 : ∀ q ∈ F2, k < q.1 := fun q hq => h4 q.1 (List.mem_map.mpr ⟨q, hq, rfl⟩)
  constructor
  · rw [List.filter_append, List.filter_cons, if_neg (by simp), List.filter_eq_self.mpr fun q hq => decide_eq_true (a1 q hq), List.filter_eq_nil_iff.mpr fun q hq => by have := a2 q hq; simp; omega, List.append_nil]
  · rw [List.filter_append, List.filter_cons, if_neg (by simp), List.filter_eq_self.mpr fun q hq => decide_eq_true (a2 q hq), List.filter_eq_nil_iff.mpr fun q hq => by have := a1 q hq; simp; omega, List.nil_append]
theorem node_loop {R : List PyData → Option PyData} {n : Nat} {lv x : Int} {rs ks : PyData} (hR : ∀ t : Tr (n + 1), okN (n + 1) t → srt ((flat (n + 1) t).map (·.1)) → (flat (n + 1) t).length ≤ 1000 → R [.list ((flat (n + 1) t).map (Tb.prD false)), .int (lv - 1)] = some (trD n t)) :
    ∀ (K : List Int) (p : Tr (n + 1)) (P : List (Tr (n + 1))) (acc : List PyData) (x2 : Sl), P.length = K.length → (∀ q ∈ p :: P, okN (n + 1) q) → srt ((weave ((p :: P).map (flat (n + 1))) (K.map fun k => (k, x))).map (·.1)) → (weave ((p :: P).map (flat (n + 1))) (K.map fun k => (k, x))).length ≤ 1000 → acc.length + K.length ≤ 1000 → Fr x2 →
    ∃ (x2' : Sl) (Q : List (Tr (n + 1))) (z : Tr (n + 1)), p :: P = Q ++ [z] ∧ srt ((flat (n + 1) z).map (·.1)) ∧ (flat (n + 1) z).length ≤ 1000 ∧
      runFor (dName 2) (m__law_node_L1 R) (K.map .int) [.d rs, .d (.int lv), x2, .d ks, .o acc, .d (.list ((weave ((p :: P).map (flat (n + 1))) (K.map fun k => (k, x))).map (Tb.prD false))), .no, .no] =
        some (.nx [.d rs, .d (.int lv), x2', .d ks, .o (acc ++ Q.map (trD n)), .d (.list ((flat (n + 1) z).map (Tb.prD false))), .no, .no])
  | [], p, [], acc, x2, _, _, hs, hz, _, _ => ⟨x2, [], p, rfl, hs, hz, by
    rw [show ([] : List (Tr (n + 1))).map (trD n) = [] from rfl, List.append_nil]
    rfl⟩
  | k :: K, p, p2 :: P, acc, x2, hl, ho, hs, hz, ha, f => by
    have e : weave ((p :: p2 :: P).map (flat (n + 1))) ((k :: K).map fun k => (k, x)) = flat (n + 1) p ++ (k, x) :: weave ((p2 :: P).map (flat (n + 1))) (K.map fun k => (k, x)) := rfl
    rw [e] at hs hz ⊢
    obtain ⟨c1, c2⟩ := cut_front hs
    have hs2 := hs
    rw [List.map_append, List.map_cons] at hs2
    obtain ⟨s1, s2, _⟩ := List.pairwise_append.mp hs2
    have s3 := (List.pairwise_cons.mp s2).2
    rw [List.length_append, List.length_cons] at hz
    have r1 := hR p (ho p List.mem_cons_self) s1 (by omega)
    rw [List.length_cons] at ha
    obtain ⟨x2', Q, z, q1, q2, q3, q4⟩ := node_loop hR K p2 P (acc ++ [trD n p]) (.d (.int k)) (by simpa using hl) (fun q hq => ho q (List.mem_cons_of_mem _ hq)) s3 (by omega) (by rw [List.length_append]; show acc.length + 1 + _ ≤ _; omega) .d
    refine ⟨x2', p :: Q, z, by rw [q1]; rfl, q2, q3, ?_⟩
    have l1 := lc_lt (F := flat (n + 1) p ++ (k, x) :: weave ((p2 :: P).map (flat (n + 1))) (K.map fun k => (k, x))) (a := rs) (b := .int lv) (d := ks) (k := k) (acc := acc) (by rw [List.length_append, List.length_cons]; omega)
    have l2 := lc_gt (F := flat (n + 1) p ++ (k, x) :: weave ((p2 :: P).map (flat (n + 1))) (K.map fun k => (k, x))) (a := rs) (b := .int lv) (d := ks) (k := k) (acc := acc ++ [trD n p]) (by rw [List.length_append, List.length_cons]; omega)
    rw [c1] at l1
    rw [c2] at l2
    have hfew : few acc = true := decide_eq_true (by omega)
    have e2 : acc ++ (p :: Q).map (trD n) = acc ++ [trD n p] ++ Q.map (trD n) := by simp
    rw [e2, ← q4, List.map_cons]
    generalize (flat (n + 1) p ++ (k, x) :: weave ((p2 :: P).map (flat (n + 1))) (K.map fun k => (k, x))).map (Tb.prD false) = F0 at *
    generalize (weave ((p2 :: P).map (flat (n + 1))) (K.map fun k => (k, x))).map (Tb.prD false) = F2 at *
    generalize (flat (n + 1) p).map (Tb.prD false) = F1 at *
    generalize trD n p = T at *
    refine runFor_cons_nx (e1 := [.d rs, .d (.int lv), .d (.int k), .d ks, .o acc, .d (.list F0), .no, .no]) ?_ ?_
    · rcases f with rfl | ⟨y, rfl⟩ <;> simp [setD, canSet]
    · simp [m__law_node_L1, sMeth, ownL, l1, r1, hfew, appF, putL, l2, setD, canSet]
theorem e_node : ∀ (n d : Nat) (t : Tr (n + 1)), okN (n + 1) t → srt ((flat (n + 1) t).map (·.1)) → (flat (n + 1) t).length ≤ 1000 → FR__law_node (d + n + 1) [.list ((flat (n + 1) t).map (Tb.prD false)), .int ((n : Int) + 1)] = some (trD n t)
  | 0, d, t, ho, hs, hl => by
    have lk := lc_key (F := flat 1 t) (lv := 1) (Nat.le_trans hl (by decide))
    have k0 : ((flat 1 t).filter fun q => decide (q.2 = (1 : Int))).map (fun q => PyData.int q.1) = t.ks.map .int := by
      have := keys_own ho
      rw [← this, List.map_map]
      rfl
    rw [k0] at lk
    have tp : tupD [.list (t.ks.map .int)] = some (kD t.ks) := rfl
    have hT : trD 0 t = .tuple [kD t.ks, .tuple []] := rfl
    have e1 : ((0 : Nat) : Int) + 1 = 1 := rfl
    rw [hT, e1]
    show fnD 6 (m__law_node (FR__law_node (d + 0))) _ = _
    generalize FR__law_node (d + 0) = R at *
    generalize kD t.ks = KK at *
    generalize (flat 1 t).map (Tb.prD false) = F0 at *
    generalize t.ks.map PyData.int = K0 at *
    simp [fnD, m__law_node, init, lk, tp, setD, canSet, small, retD]
  | n + 1, d, t, ho, hs, hl => by
    have lk := lc_key (F := flat (n + 2) t) (lv := ((n + 1 : Nat) : Int) + 1) (Nat.le_trans hl (by decide))
    have k0 : ((flat (n + 2) t).filter fun q => decide (q.2 = ((n + 1 : Nat) : Int) + 1)).map (fun q => PyData.int q.1) = t.ks.map .int := by
      have := keys_own ho
      rw [← this, List.map_map]
      rfl
    rw [k0] at lk
    have tp : tupD [.list (t.ks.map .int)] = some (kD t.ks) := rfl
    have hR : ∀ u : Tr (n + 1), okN (n + 1) u → srt ((flat (n + 1) u).map (·.1)) → (flat (n + 1) u).length ≤ 1000 → FR__law_node (d + n + 1) [.list ((flat (n + 1) u).map (Tb.prD false)), .int (((n + 1 : Nat) : Int) + 1 - 1)] = some (trD n u) := fun u h1 h2 h3 => by
      have := e_node n d u h1 h2 h3
      rw [show ((n + 1 : Nat) : Int) + 1 - 1 = (n : Int) + 1 by omega]
      exact this
    have hk3 := ho.2.2.1
    match hps : t.ps, (show t.ps ≠ [] from fun z => by have := ho.1; rw [z] at this; cases this) with
    | p :: P, _ =>
      have lP : P.length = t.ks.length := by
        have := ho.1
        rw [hps] at this
        simpa using this
      have fe : flat (n + 2) t = weave ((p :: P).map (flat (n + 1))) (t.ks.map fun k => (k, ((n + 1 : Nat) : Int) + 1)) := by
        rw [← hps]
        rfl
      rw [fe] at hs hl
      obtain ⟨x2', Q, z, q1, q2, q3, q4⟩ := node_loop (rs := .list ((flat (n + 2) t).map (Tb.prD false))) (ks := kD t.ks) (lv := ((n + 1 : Nat) : Int) + 1) hR t.ks p P [] .no lP (fun q hq => ho.2.2.2 q (by rw [hps]; exact hq)) hs hl (by show 0 + _ ≤ _; omega) .no
      have rz := hR z (ho.2.2.2 z (by rw [hps, q1]; simp)) q2 q3
      have hT : trD (n + 1) t = .tuple [kD t.ks, .tuple (Q.map (trD n) ++ [trD n z])] := by
        show PyData.tuple [kD t.ks, .tuple (t.ps.map (trD n))] = _
        rw [hps, q1, List.map_append]
        rfl
      have lQ : (Q.map (trD n)).length ≤ 10 := by
        have := congrArg List.length q1
        rw [List.length_append, List.length_cons] at this
        rw [List.length_map]
        have h2 : [z].length = 1 := rfl
        omega
      have ad : addD (.list (Q.map (trD n))) (.list [trD n z]) = some (.list (Q.map (trD n) ++ [trD n z])) := by
        show (if (Q.map (trD n)).length + [trD n z].length ≤ 100000 then _ else none) = _
        have h2 : [trD n z].length = 1 := rfl
        rw [if_pos (by omega)]
      have tp2 : ∀ zs : List PyData, tupD [.list zs] = some (.tuple zs) := fun _ => rfl
      have ls : lstD [.list ((flat (n + 2) t).map (Tb.prD false))] = some ((flat (n + 2) t).map (Tb.prD false)) := rfl
      rw [← fe] at q4
      rw [List.nil_append] at q4
      have c1 : ¬ ((n + 1 : Nat) : Int) + 1 = 1 := by omega
      have ik : itemsOf (kD t.ks) = some (t.ks.map .int) := rfl
      rw [hT]
      show fnD 6 (m__law_node (FR__law_node (d + n + 1))) _ = _
      generalize FR__law_node (d + n + 1) = R at *
      generalize kD t.ks = KK at *
      generalize (flat (n + 2) t).map (Tb.prD false) = F0 at *
      generalize (flat (n + 1) z).map (Tb.prD false) = FZ at *
      generalize t.ks.map PyData.int = K0 at *
      generalize Q.map (trD n) = QQ at *
      generalize trD n z = TZ at *
      generalize ((n + 1 : Nat) : Int) + 1 = lv at *
      simp [fnD, m__law_node, init, lk, tp, setD, canSet, small, c1, sParX, xCons, xConsL, xNil, sSetsX, setO, ls, ik, q4, rz, ad, tp2, retD]
end Tk
end

section
set_option Elab.async false
set_option linter.all false
set_option maxRecDepth 100000
set_option maxHeartbeats 1000000
/-! k67: the law takes a key out of its tree. -/
namespace Tk
open PySem PySem.Spec PyProof.Rows L2 Evl Tb Fd
section
variable {α : Type} (xs : List α)
theorem cut_mid (i : Nat) (h : i + 1 ≤ xs.length) : cutL xs (some (i : Int)) (some ((i : Int) + 1)) = (xs.take (i + 1)).drop i := by
  unfold cutL
  rw [show (i : Int) + 1 = ((i + 1 : Nat) : Int) from rfl, HT.sIx_nat, HT.sIx_nat, show min i xs.length = i by omega, show min (i + 1) xs.length = i + 1 by omega, List.drop_take]
theorem sIx_m1 (n d : Nat) : HT.sIx n d (some (-1)) = n - 1 := by
  show (if (-1 : Int) < 0 then ((-1 : Int) + (n : Int)).toNat else min (-1 : Int).toNat n) = n - 1
  rw [if_pos (by decide)]
  omega
theorem cut_init : cutL xs none (some (-1)) = xs.take (xs.length - 1) := by
  unfold cutL
  rw [HT.sIx_none, sIx_m1, List.drop_zero, Nat.sub_zero]
theorem cut_lst : cutL xs (some (-1)) none = xs.drop (xs.length - 1) := by
  unfold cutL
  rw [HT.sIx_none, sIx_m1, List.take_of_length_le (by rw [List.length_drop]; omega)]
end
section
variable {xs ys : List PyData} {i : Nat}
theorem sT_to : slD (.tuple xs) none (some (i : Int)) = some (.tuple (xs.take i)) := by
  show some (PyData.tuple (cutL xs none (some (i : Int)))) = _
  rw [cut_to]
theorem sT_from : slD (.tuple xs) (some (i : Int)) none = some (.tuple (xs.drop i)) := by
  show some (PyData.tuple (cutL xs (some (i : Int)) none)) = _
  rw [cut_from]
theorem sT_from1 : slD (.tuple xs) (some ((i : Int) + 1)) none = some (.tuple (xs.drop (i + 1))) := sT_from (i := i + 1)
theorem sT_from2 : slD (.tuple xs) (some ((i : Int) + 2)) none = some (.tuple (xs.drop (i + 2))) := sT_from (i := i + 2)
theorem sT_to1 : slD (.tuple xs) none (some 1) = some (.tuple (xs.take 1)) := sT_to (i := 1)
theorem sT_fr1 : slD (.tuple xs) (some 1) none = some (.tuple (xs.drop 1)) := sT_from (i := 1)
theorem sT_mid (h : i + 1 ≤ xs.length) : slD (.tuple xs) (some (i : Int)) (some ((i : Int) + 1)) = some (.tuple ((xs.take (i + 1)).drop i)) := by
  show some (PyData.tuple (cutL xs (some (i : Int)) (some ((i : Int) + 1)))) = _
  rw [cut_mid xs i h]
theorem sT_init : slD (.tuple xs) none (some (-1)) = some (.tuple (xs.take (xs.length - 1))) := by
  show some (PyData.tuple (cutL xs none (some (-1)))) = _
  rw [cut_init]
theorem sT_lst : slD (.tuple xs) (some (-1)) none = some (.tuple (xs.drop (xs.length - 1))) := by
  show some (PyData.tuple (cutL xs (some (-1)) none)) = _
  rw [cut_lst]
theorem addT (h : xs.length + ys.length ≤ 100000) : addD (.tuple xs) (.tuple ys) = some (.tuple (xs ++ ys)) := if_pos h
end
theorem small_of {xs : List PyData} (h : xs.length ≤ 100) : small xs = true := decide_eq_true (by omega)
theorem behind_run {ks ps be oth rest : List PyData} {ke : PyData} {i : Nat} (h0 : ps[i]? = some (.tuple [ke, .tuple be])) (h1 : ps[i + 1]? = some (.tuple [.tuple oth, .tuple rest])) (hk : i + 1 ≤ ks.length) (l1 : ks.length ≤ 20) (l2 : ps.length ≤ 20) (l3 : be.length ≤ 20) (l4 : oth.length ≤ 20) (l5 : rest.length ≤ 20) :
    F__law_behind [.tuple ks, .tuple ps, .int (i : Int)] = some (if 1 < oth.length then
      .tuple [.tuple (ks.take i ++ oth.take 1 ++ ks.drop (i + 1)), .tuple (ps.take i ++ [.tuple [.tuple ((ks.take (i + 1)).drop i), .tuple (be ++ rest.take 1)], .tuple [.tuple (oth.drop 1), .tuple (rest.drop 1)]] ++ ps.drop (i + 2))]
      else .tuple [.tuple (ks.take i ++ ks.drop (i + 1)), .tuple (ps.take i ++ [.tuple [.tuple ((ks.take (i + 1)).drop i ++ oth), .tuple (be ++ rest)]] ++ ps.drop (i + 2))]) := by
  have i0 : ixD (.tuple ps) (.int (i : Int)) = some (.tuple [ke, .tuple be]) := at_nat h0
  have i1 : ixD (.tuple ps) (.int ((i : Int) + 1)) = some (.tuple [.tuple oth, .tuple rest]) := at_nat (i := i + 1) h1
  have i2 : ixD (.tuple [ke, .tuple be]) (.int 1) = some (.tuple be) := at_1 ..
  have a1 := @sT_to ks i
  have a2 := @sT_from1 ks i
  have a3 := @sT_mid ks i hk
  have a4 := @sT_to ps i
  have a5 := @sT_from2 ps i
  have a6 := @sT_to1 oth
  have a7 := @sT_fr1 oth
  have a8 := @sT_to1 rest
  have a9 := @sT_fr1 rest
  have lo : lenD [.tuple oth] = some (.int (oth.length : Int)) := rfl
  by_cases c : 1 < oth.length
  · have c1 : (1 : Int) < (oth.length : Int) := by omega
    rw [if_pos c]
    have b1 : addD (.tuple be) (.tuple (rest.take 1)) = some (.tuple (be ++ rest.take 1)) := addT (by rw [List.length_take]; omega)
    have b2 : addD (.tuple (ks.take i)) (.tuple (oth.take 1)) = some (.tuple (ks.take i ++ oth.take 1)) := addT (by rw [List.length_take, List.length_take]; omega)
    have b3 : addD (.tuple (ks.take i ++ oth.take 1)) (.tuple (ks.drop (i + 1))) = some (.tuple (ks.take i ++ oth.take 1 ++ ks.drop (i + 1))) := addT (by rw [List.length_append, List.length_take, List.length_take, List.length_drop]; omega)
    have b4 : ∀ x y : PyData, addD (.tuple (ps.take i)) (.tuple [x, y]) = some (.tuple (ps.take i ++ [x, y])) := fun x y => addT (by rw [List.length_take]; show _ + 2 ≤ _; omega)
    have b5 : ∀ x y : PyData, addD (.tuple (ps.take i ++ [x, y])) (.tuple (ps.drop (i + 2))) = some (.tuple (ps.take i ++ [x, y] ++ ps.drop (i + 2))) := fun x y => addT (by rw [List.length_append, List.length_take, List.length_drop]; show _ + 2 + _ ≤ _; omega)
    generalize (ks.take (i + 1)).drop i = z3 at *
    generalize be ++ rest.take 1 = z4 at *
    generalize ks.take i ++ oth.take 1 ++ ks.drop (i + 1) = z5 at *
    generalize ks.take i ++ oth.take 1 = z6 at *
    generalize oth.take 1 = z1 at *
    generalize oth.drop 1 = z2 at *
    generalize rest.take 1 = z7 at *
    generalize rest.drop 1 = z8 at *
    generalize ps.take i = z9 at *
    generalize ps.drop (i + 2) = z10 at *
    generalize ks.take i = z11 at *
    generalize ks.drop (i + 1) = z12 at *
    generalize hLen : (oth.length : Int) = n at *
    have s2 : ∀ x y : PyData, small [x, y] = true := fun _ _ => rfl
    simp [F__law_behind, fnD, m__law_behind, init, i0, i1, i2, setD, canSet, s2, lo, c1, dSl, a1, a2, a3, a4, a5, a6, a7, a8, a9, b1, b2, b3, b4, b5, retD]
  · have c1 : ¬ (1 : Int) < (oth.length : Int) := by omega
    rw [if_neg c]
    have b1 : addD (.tuple be) (.tuple rest) = some (.tuple (be ++ rest)) := addT (by omega)
    have b2 : addD (.tuple ((ks.take (i + 1)).drop i)) (.tuple oth) = some (.tuple ((ks.take (i + 1)).drop i ++ oth)) := addT (by rw [List.length_drop, List.length_take]; omega)
    have b3 : addD (.tuple (ks.take i)) (.tuple (ks.drop (i + 1))) = some (.tuple (ks.take i ++ ks.drop (i + 1))) := addT (by rw [List.length_take, List.length_drop]; omega)
    have b4 : ∀ x : PyData, addD (.tuple (ps.take i)) (.tuple [x]) = some (.tuple (ps.take i ++ [x])) := fun x => addT (by rw [List.length_take]; show _ + 1 ≤ _; omega)
    have b5 : ∀ x : PyData, addD (.tuple (ps.take i ++ [x])) (.tuple (ps.drop (i + 2))) = some (.tuple (ps.take i ++ [x] ++ ps.drop (i + 2))) := fun x => addT (by rw [List.length_append, List.length_take, List.length_drop]; show _ + 1 + _ ≤ _; omega)
    have s1 : ∀ x : PyData, small [x] = true := fun _ => rfl
    have s2 : ∀ x y : PyData, small [x, y] = true := fun _ _ => rfl
    generalize (ks.take (i + 1)).drop i ++ oth = z4 at *
    generalize (ks.take (i + 1)).drop i = z3 at *
    generalize be ++ rest = z5 at *
    generalize ks.take i ++ ks.drop (i + 1) = z6 at *
    generalize ps.take i = z9 at *
    generalize ps.drop (i + 2) = z10 at *
    generalize ks.take i = z11 at *
    generalize ks.drop (i + 1) = z12 at *
    generalize hLen : (oth.length : Int) = n at *
    simp [F__law_behind, fnD, m__law_behind, init, i0, i1, i2, setD, canSet, s1, s2, lo, c1, dSl, a1, a2, a3, a4, a5, b1, b2, b3, b4, b5, retD]
theorem ahead_run {ks ps be oth rest : List PyData} {ke : PyData} {j : Nat} (h0 : ps[j + 1]? = some (.tuple [ke, .tuple be])) (h1 : ps[j]? = some (.tuple [.tuple oth, .tuple rest])) (l1 : ks.length ≤ 20) (l2 : ps.length ≤ 20) (l3 : be.length ≤ 20) (l4 : oth.length ≤ 20) (l5 : rest.length ≤ 20) :
    F__law_ahead [.tuple ks, .tuple ps, .int ((j : Int) + 1)] = some (if 1 < oth.length then
      .tuple [.tuple (ks.take j ++ oth.drop (oth.length - 1)), .tuple (ps.take j ++ [.tuple [.tuple (oth.take (oth.length - 1)), .tuple (rest.take (rest.length - 1))], .tuple [.tuple (ks.drop j), .tuple (rest.drop (rest.length - 1) ++ be)]])]
      else .tuple [.tuple (ks.take j), .tuple (ps.take j ++ [.tuple [.tuple (oth ++ ks.drop j), .tuple (rest ++ be)]])]) := by
  have i0 : ixD (.tuple ps) (.int ((j : Int) + 1)) = some (.tuple [ke, .tuple be]) := at_nat (i := j + 1) h0
  have i1 : ixD (.tuple ps) (.int (j : Int)) = some (.tuple [.tuple oth, .tuple rest]) := at_nat h1
  have i2 : ixD (.tuple [ke, .tuple be]) (.int 1) = some (.tuple be) := at_1 ..
  have ej : (j : Int) + 1 - 1 = j := by omega
  have a1 := @sT_to ks j
  have a2 := @sT_from ks j
  have a4 := @sT_to ps j
  have a6 := @sT_init oth
  have a7 := @sT_lst oth
  have a8 := @sT_init rest
  have a9 := @sT_lst rest
  have lo : lenD [.tuple oth] = some (.int (oth.length : Int)) := rfl
  have s1 : ∀ x : PyData, small [x] = true := fun _ => rfl
  have s2 : ∀ x y : PyData, small [x, y] = true := fun _ _ => rfl
  by_cases c : 1 < oth.length
  · have c1 : (1 : Int) < (oth.length : Int) := by omega
    rw [if_pos c]
    have b1 : addD (.tuple (rest.drop (rest.length - 1))) (.tuple be) = some (.tuple (rest.drop (rest.length - 1) ++ be)) := addT (by rw [List.length_drop]; omega)
    have b2 : addD (.tuple (ks.take j)) (.tuple (oth.drop (oth.length - 1))) = some (.tuple (ks.take j ++ oth.drop (oth.length - 1))) := addT (by rw [List.length_take, List.length_drop]; omega)
    have b4 : ∀ x y : PyData, addD (.tuple (ps.take j)) (.tuple [x, y]) = some (.tuple (ps.take j ++ [x, y])) := fun x y => addT (by rw [List.length_take]; show _ + 2 ≤ _; omega)
    generalize rest.drop (rest.length - 1) ++ be = z4 at *
    generalize ks.take j ++ oth.drop (oth.length - 1) = z5 at *
    generalize oth.drop (oth.length - 1) = z1 at *
    generalize oth.take (oth.length - 1) = z2 at *
    generalize rest.drop (rest.length - 1) = z7 at *
    generalize rest.take (rest.length - 1) = z8 at *
    generalize ps.take j = z9 at *
    generalize ks.take j = z11 at *
    generalize ks.drop j = z12 at *
    generalize hLen : (oth.length : Int) = n at *
    simp [F__law_ahead, fnD, m__law_ahead, init, i0, i1, i2, ej, setD, canSet, s2, lo, c1, dSl, a1, a2, a4, a6, a7, a8, a9, b1, b2, b4, retD]
  · have c1 : ¬ (1 : Int) < (oth.length : Int) := by omega
    rw [if_neg c]
    have b1 : addD (.tuple rest) (.tuple be) = some (.tuple (rest ++ be)) := addT (by omega)
    have b2 : addD (.tuple oth) (.tuple (ks.drop j)) = some (.tuple (oth ++ ks.drop j)) := addT (by rw [List.length_drop]; omega)
    have b4 : ∀ x : PyData, addD (.tuple (ps.take j)) (.tuple [x]) = some (.tuple (ps.take j ++ [x])) := fun x => addT (by rw [List.length_take]; show _ + 1 ≤ _; omega)
    generalize rest ++ be = z4 at *
    generalize oth ++ ks.drop j = z5 at *
    generalize ps.take j = z9 at *
    generalize ks.take j = z11 at *
    generalize ks.drop j = z12 at *
    generalize hLen : (oth.length : Int) = n at *
    simp [F__law_ahead, fnD, m__law_ahead, init, i0, i1, i2, ej, setD, canSet, s1, s2, lo, c1, dSl, a1, a2, a4, b1, b2, b4, retD]
end Tk
end

section
set_option Elab.async false
set_option linter.all false
set_option maxRecDepth 100000
set_option maxHeartbeats 1000000
/-! k67: the law takes a key out of its tree, 2. -/
namespace Tk
open PySem PySem.Spec PyProof.Rows L2 Evl Tb Fd
theorem trD_mk {n : Nat} (K : List Int) (P : List (Tr (n + 1))) : trD (n + 1) (mkT K P) = .tuple [kD K, .tuple (P.map (trD n))] := rfl
theorem psD_app : ∀ {n : Nat} (K K1 K2 : List Int) (A B : List (Tr n)), psD n (mkT K (A ++ B)) = psD n (mkT K1 A) ++ psD n (mkT K2 B)
  | 0, _, _, _, _, _ => rfl
  | n + 1, K, K1, K2, A, B => by
    show (A ++ B).map (trD n) = A.map (trD n) ++ B.map (trD n)
    rw [List.map_append]
theorem psD_take : ∀ {n : Nat} (K K1 : List Int) (A : List (Tr n)) (i : Nat), psD n (mkT K (A.take i)) = (psD n (mkT K1 A)).take i
  | 0, _, _, _, i => by
    show ([] : List PyData) = [].take i
    simp
  | n + 1, K, K1, A, i => by
    show (A.take i).map (trD n) = (A.map (trD n)).take i
    rw [List.map_take]
theorem psD_drop : ∀ {n : Nat} (K K1 : List Int) (A : List (Tr n)) (i : Nat), psD n (mkT K (A.drop i)) = (psD n (mkT K1 A)).drop i
  | 0, _, _, _, i => by
    show ([] : List PyData) = [].drop i
    simp
  | n + 1, K, K1, A, i => by
    show (A.drop i).map (trD n) = (A.map (trD n)).drop i
    rw [List.map_drop]
/-- the last part, also where there are no parts -/
theorem psD_last {n : Nat} (K K1 : List Int) (A : List (Tr n)) : psD n (mkT K (A.take (A.length - 1))) = (psD n (mkT K1 A)).take ((psD n (mkT K1 A)).length - 1) ∧ psD n (mkT K (A.drop (A.length - 1))) = (psD n (mkT K1 A)).drop ((psD n (mkT K1 A)).length - 1) := by
  cases n with
  | zero => exact ⟨rfl, rfl⟩
  | succ n =>
    rw [psD_take K K1, psD_drop K K1]
    have : (psD (n + 1) (mkT K1 A)).length = A.length := by
      show (A.map (trD n)).length = _
      rw [List.length_map]
    rw [this]
    exact ⟨rfl, rfl⟩
theorem psD_own {n : Nat} (t : Tr (n + 1)) (K : List Int) : psD n (mkT K t.ps) = psD n t := by
  cases n with
  | zero => rfl
  | succ n => rfl
theorem psD_len {n : Nat} {t : Tr (n + 1)} (h : t.ps.length ≤ 20) : (psD n t).length ≤ 20 := by
  cases n with
  | zero => exact Nat.zero_le _
  | succ n =>
    show (t.ps.map (trD n)).length ≤ 20
    rw [List.length_map]
    exact h
theorem ok_len {n : Nat} {t : Tr (n + 1)} (ho : okN (n + 1) t) : t.ps.length ≤ 4 ∧ t.ks.length ≤ 3 := ⟨by have := ho.1; have := ho.2.2.1; omega, ho.2.2.1⟩
theorem get_tr {n : Nat} {ps : List (Tr (n + 1))} {i : Nat} {e : Tr (n + 1)} (h : ps[i]? = some e) : (ps.map (trD n))[i]? = some (.tuple [kD e.ks, .tuple (psD n e)]) := by
  rw [List.getElem?_map, h]
  show some (trD n e) = _
  rw [trD_eq]
theorem getD_of {α : Type} {xs : List α} {i : Nat} {x d : α} (h : xs[i]? = some x) : xs.getD i d = x := by
  rw [List.getD_eq_getElem?_getD, h]
  rfl
theorem e_behind {n : Nat} {ks : List Int} {ps : List (Tr (n + 1))} {i : Nat} {e q : Tr (n + 1)} (h0 : ps[i]? = some e) (h1 : ps[i + 1]? = some q) (hk : i + 1 ≤ ks.length) (l1 : ks.length ≤ 20) (l2 : ps.length ≤ 20) (l3 : e.ps.length ≤ 20) (oq : okN (n + 1) q) :
    F__law_behind [kD ks, .tuple (ps.map (trD n)), .int (i : Int)] = some (trD (n + 1) (fixB ks ps i)) := by
  obtain ⟨q1, q2⟩ := ok_len oq
  rw [behind_run (get_tr h0) (get_tr h1) (by rw [List.length_map]; exact hk) (by rw [List.length_map]; exact l1) (by rw [List.length_map]; exact l2) (psD_len l3) (by rw [List.length_map]; omega) (psD_len (by omega))]
  unfold fixB
  rw [getD_of h0, getD_of h1, List.length_map]
  have m1 : ∀ (K : List Int) (A : List (Tr n)), trD n (mkT K A) = .tuple [kD K, .tuple (psD n (mkT K A))] := fun K A => trD_eq _
  by_cases c : 1 < q.ks.length
  · rw [if_pos c, if_pos c, trD_mk]
    simp only [List.map_append, List.map_cons, List.map_nil, m1, psD_app _ [] [], psD_take _ [], psD_drop _ [], psD_own]
    simp only [kD, List.map_append, List.map_take, List.map_drop]
  · rw [if_neg c, if_neg c, trD_mk]
    simp only [List.map_append, List.map_cons, List.map_nil, m1, psD_app _ [] [], psD_own]
    simp only [kD, List.map_append, List.map_take, List.map_drop]
theorem e_ahead {n : Nat} {ks : List Int} {ps : List (Tr (n + 1))} {j : Nat} {e q : Tr (n + 1)} (h0 : ps[j + 1]? = some e) (h1 : ps[j]? = some q) (l1 : ks.length ≤ 20) (l2 : ps.length ≤ 20) (l3 : e.ps.length ≤ 20) (oq : okN (n + 1) q) :
    F__law_ahead [kD ks, .tuple (ps.map (trD n)), .int ((j : Int) + 1)] = some (trD (n + 1) (fixA ks ps (j + 1))) := by
  obtain ⟨q1, q2⟩ := ok_len oq
  rw [ahead_run (get_tr h0) (get_tr h1) (by rw [List.length_map]; exact l1) (by rw [List.length_map]; exact l2) (psD_len l3) (by rw [List.length_map]; omega) (psD_len (by omega))]
  unfold fixA
  rw [Nat.add_sub_cancel, getD_of h0, getD_of h1, List.length_map]
  have m1 : ∀ (K : List Int) (A : List (Tr n)), trD n (mkT K A) = .tuple [kD K, .tuple (psD n (mkT K A))] := fun K A => trD_eq _
  obtain ⟨z1, z2⟩ := psD_last ([] : List Int) [] q.ps
  have y1 : ∀ K, psD n (mkT K (q.ps.take (q.ps.length - 1))) = (psD n q).take ((psD n q).length - 1) := fun K => by
    rw [(psD_last K [] q.ps).1, psD_own]
  have y2 : ∀ K, psD n (mkT K (q.ps.drop (q.ps.length - 1))) = (psD n q).drop ((psD n q).length - 1) := fun K => by
    rw [(psD_last K [] q.ps).2, psD_own]
  by_cases c : 1 < q.ks.length
  · rw [if_pos c, if_pos c, trD_mk]
    simp only [List.map_append, List.map_cons, List.map_nil, m1, psD_app _ [] [], y1, y2, psD_own]
    simp only [kD, List.map_append, List.map_take, List.map_drop]
  · rw [if_neg c, if_neg c, trD_mk]
    simp only [List.map_append, List.map_cons, List.map_nil, m1, psD_app _ [] [], psD_own]
    simp only [kD, List.map_append, List.map_take, List.map_drop]
/-! ### comprehensions over keys -/
def intC (P : Int → Bool) (d : PyData) : Option PyData := match d with
  | .int k => if P k = true then some (.int k) else none
  | _ => none
theorem int_filter (P : Int → Bool) : ∀ ks : List Int, (ks.map PyData.int).filterMap (intC P) = (ks.filter P).map .int
  | [] => rfl
  | k :: ks => by
    rw [List.map_cons, List.filterMap_cons, List.filter_cons]
    have e : intC P (.int k) = if P k = true then some (.int k) else none := rfl
    rw [e]
    cases P k
    · exact int_filter P ks
    · simp only [if_true, List.map_cons, int_filter P ks]
theorem lc_ks {e : En} {ks : List Int} (P : Int → Bool) {test : Dn Bool} (hi : (dItems (dVar 2)) e = some (ks.map .int, e)) (hf : vsFree e [6] = true) (hw : wipeE e [6] = e) (hr : restE e e [6] = e) (hl : ks.length ≤ 40000)
    (ht : ∀ k : Int, ∃ e1, dName 6 (.int k) e = some e1 ∧ test e1 = some (P k, e1) ∧ dVar 6 e1 = some (.int k, e1) ∧ wipeE e1 [6] = e) : dLc (dItems (dVar 2)) (dName 6) test (dVar 6) [6] e = some ((ks.filter P).map .int, e) := by
  rw [← int_filter P]
  refine dLc_map _ hi hf (by rw [List.length_map]; exact hl) (by rw [hw]; exact hr) fun d hd => ?_
  obtain ⟨k, _, rfl⟩ := List.mem_map.mp hd
  obtain ⟨e1, h1, h2, h3, h4⟩ := ht k
  rw [hw]
  refine ⟨e1, e1, h1, ?_⟩
  have ec : intC P (.int k) = if P k = true then some (.int k) else none := rfl
  rw [ec]
  cases hp : P k with
  | true =>
    rw [hp] at h2
    rw [if_pos rfl]
    exact ⟨e1, h2, h3, h4⟩
  | false =>
    rw [hp] at h2
    rw [if_neg Bool.false_ne_true]
    exact ⟨h2, h4⟩
end Tk
end

section
set_option Elab.async false
set_option linter.all false
set_option maxRecDepth 100000
set_option maxHeartbeats 1000000
/-! k67: the law takes a key out of its tree, 3. -/
namespace Tk
open PySem PySem.Spec PyProof.Rows L2 Evl Tb Fd
theorem taken_run {R : List PyData → Option PyData} {T KS PS KS' PS' C C' KC Z p1 p2 p3 : PyData} {K1 : List PyData} {key key' i : Int}
    (hT : itemsOf T = some [KS, PS]) (hE : eqD PS (.tuple []) = some (.bool false))
    (hlc : dLc (dItems (dVar 2)) (dName 6) (dTest (dOp ltD (dVar 6) (dVar 1))) (dVar 6) [6] [.d T, .d (.int key), .d KS, .d PS, .no, .no, .no] = some (K1, [.d T, .d (.int key), .d KS, .d PS, .no, .no, .no])) (hn : lenD [.list K1] = some (.int i))
    (hC : ixD PS (.int i) = some C)
    (hin : (inXD (.int key) KS = some (.bool false) ∧ key' = key ∧ KS' = KS) ∨ (inXD (.int key) KS = some (.bool true) ∧ F__law_last [C] = some (.int key') ∧ ∃ k1 k2 k3, slD KS none (some i) = some k1 ∧ addD k1 (.tuple [.int key']) = some k2 ∧ slD KS (some (i + 1)) none = some k3 ∧ addD k2 k3 = some KS'))
    (hR : R [C, .int key'] = some C') (hp1 : slD PS none (some i) = some p1) (hp2 : addD p1 (.tuple [C']) = some p2) (hp3 : slD PS (some (i + 1)) none = some p3) (hp4 : addD p2 p3 = some PS')
    (hC' : ixD PS' (.int i) = some C') (hKC : ixD C' (.int 0) = some KC)
    (hfin : (neD KC (.tuple []) = some (.bool true) ∧ Z = .tuple [KS', PS']) ∨ (neD KC (.tuple []) = some (.bool false) ∧ ∃ m : Int, lenD [KS'] = some (.int m) ∧ ((i < m ∧ F__law_behind [KS', PS', .int i] = some Z) ∨ (¬ i < m ∧ F__law_ahead [KS', PS', .int i] = some Z)))) :
    fnD 5 (m__law_taken R) [T, .int key] = some Z := by
  have s1 : ∀ x : PyData, small [x] = true := fun _ => rfl
  have s2 : ∀ x y : PyData, small [x, y] = true := fun _ _ => rfl
  have s0 : small [] = true := rfl
  rcases hin with ⟨hi, rfl, rfl⟩ | ⟨hi, hL, k1, k2, k3, h1, h2, h3, h4⟩
  · rcases hfin with ⟨hf, rfl⟩ | ⟨hf, m, hm, ⟨c, hz⟩ | ⟨c, hz⟩⟩
    · simp [fnD, m__law_taken, init, hT, setD, canSet, s0, hE, hlc, hn, hi, hC, hR, dSl, hp1, s1, hp2, hp3, hp4, hC', hKC, hf, s2, retD]
    · simp [fnD, m__law_taken, init, hT, setD, canSet, s0, hE, hlc, hn, hi, hC, hR, dSl, hp1, s1, hp2, hp3, hp4, hC', hKC, hf, s2, hm, c, hz, retD]
    · simp [fnD, m__law_taken, init, hT, setD, canSet, s0, hE, hlc, hn, hi, hC, hR, dSl, hp1, s1, hp2, hp3, hp4, hC', hKC, hf, s2, hm, c, hz, retD]
  · rcases hfin with ⟨hf, rfl⟩ | ⟨hf, m, hm, ⟨c, hz⟩ | ⟨c, hz⟩⟩
    · simp [fnD, m__law_taken, init, hT, setD, canSet, s0, hE, hlc, hn, hi, hL, h1, h2, h3, h4, hC, hR, dSl, hp1, s1, hp2, hp3, hp4, hC', hKC, hf, s2, retD]
    · simp [fnD, m__law_taken, init, hT, setD, canSet, s0, hE, hlc, hn, hi, hL, h1, h2, h3, h4, hC, hR, dSl, hp1, s1, hp2, hp3, hp4, hC', hKC, hf, s2, hm, c, hz, retD]
    · simp [fnD, m__law_taken, init, hT, setD, canSet, s0, hE, hlc, hn, hi, hL, h1, h2, h3, h4, hC, hR, dSl, hp1, s1, hp2, hp3, hp4, hC', hKC, hf, s2, hm, c, hz, retD]
theorem items_tr {n : Nat} (t : Tr (n + 1)) : itemsOf (trD n t) = some [kD t.ks, .tuple (psD n t)] := by
  rw [trD_eq]
  rfl
theorem neD_ks (ks : List Int) : neD (kD ks) (.tuple []) = some (.bool (!ks.isEmpty)) := by
  have h := (eq_nil (m := 1) (xs := ks.map .int) (okD_ints 0 ks) (by decide)).2
  have e : (ks.map PyData.int).isEmpty = ks.isEmpty := by cases ks <;> rfl
  rw [e] at h
  exact h
theorem eqD_ks (ks : List Int) : eqD (kD ks) (.tuple []) = some (.bool ks.isEmpty) := by
  have h := (eq_nil (m := 1) (xs := ks.map .int) (okD_ints 0 ks) (by decide)).1
  have e : (ks.map PyData.int).isEmpty = ks.isEmpty := by cases ks <;> rfl
  rw [e] at h
  exact h
theorem e_lastF {n : Nat} (hn : n ≤ 3) (t : Tr (n + 1)) (ho : okN (n + 1) t) : F__law_last [trD n t] = some (.int (lastK n t)) := by
  have := e_last n (3 - n) t (by omega) ho
  rw [show 3 - n + n + 1 = 4 by omega] at this
  exact this
theorem e_taken : ∀ (n d : Nat) (t : Tr (n + 1)) (key : Int), n ≤ 3 → okN (n + 1) t → srt (keysT (n + 1) t) → key ∈ keysT (n + 1) t → FR__law_taken (d + n + 1) [trD n t, .int key] = some (trD n (tk n t key))
  | 0, d, t, key, _, ho, _, _ => by
    have hT := items_tr t
    have hE : eqD (.tuple (psD 0 t)) (.tuple []) = some (.bool true) := (eq_nil (m := 1) (xs := psD 0 t) rfl (by decide)).1
    have lc := lc_ks (e := [.d (trD 0 t), .d (.int key), .d (kD t.ks), .d (.tuple (psD 0 t)), .no, .no, .no]) (ks := t.ks) (fun k => !decide (k = key)) (test := dTest (dOp neD (dVar 6) (dVar 1))) (by simp) rfl rfl rfl (by have := ho.2.2.1; omega) fun k => ⟨[.d (trD 0 t), .d (.int key), .d (kD t.ks), .d (.tuple (psD 0 t)), .no, .no, .d (.int k)], by simp [setD, canSet], by simp, by simp, rfl⟩
    have hf : t.ks.filter (fun k => !decide (k = key)) = t.ks.filter fun k => decide (k ≠ key) := by
      congr 1
      funext k
      simp
    rw [hf] at lc
    have hZ : trD 0 (tk 0 t key) = .tuple [.tuple ((t.ks.filter fun k => decide (k ≠ key)).map .int), .tuple []] := rfl
    have tp : ∀ zs : List PyData, tupD [.list zs] = some (.tuple zs) := fun _ => rfl
    rw [hZ]
    show fnD 5 (m__law_taken (FR__law_taken (d + 0))) _ = _
    generalize FR__law_taken (d + 0) = R at *
    generalize (t.ks.filter fun k => decide (k ≠ key)).map PyData.int = FK at *
    generalize trD 0 t = T at *
    generalize kD t.ks = KS at *
    generalize PyData.tuple (psD 0 t) = PS at *
    simp [fnD, m__law_taken, init, hT, setD, canSet, small, hE, lc, tp, retD]
  | n + 1, d, t, key, hn, ho, hs, hk => by
    obtain ⟨K1, K2, P1, c, P2, A⟩ := at2 ho hs hk
    have cps : c ∈ t.ps := by rw [A.ps]; exact List.mem_append_right _ List.mem_cons_self
    have oc := ho.2.2.2 c cps
    have hs2 := hs
    rw [A.keys] at hs2
    have sc : srt (keysT (n + 1) c) := (List.pairwise_append.mp (List.pairwise_append.mp hs2).1).2.1
    obtain ⟨K2', B⟩ := at3 A oc
    have ih := e_taken n d c (kyOf t key) (by omega) oc sc B.inn
    obtain ⟨b1, b2⟩ := ok_len ho
    have lK : K1.length + K2.length ≤ 3 := by
      rw [A.ks, List.length_append] at b2
      exact b2
    have lP : P1.length + (P2.length + 1) ≤ 4 := by
      rw [A.ps, List.length_append, List.length_cons] at b1
      exact b1
    have lc := lc_ks (e := [.d (trD (n + 1) t), .d (.int key), .d (kD t.ks), .d (.tuple (psD (n + 1) t)), .no, .no, .no]) (ks := t.ks) (fun k => decide (k < key)) (test := dTest (dOp ltD (dVar 6) (dVar 1))) (by simp) rfl rfl rfl (by omega) fun k => ⟨[.d (trD (n + 1) t), .d (.int key), .d (kD t.ks), .d (.tuple (psD (n + 1) t)), .no, .no, .d (.int k)], by simp [setD, canSet], by simp, by simp, rfl⟩
    have hcn : lenD [.list ((t.ks.filter fun k => decide (k < key)).map .int)] = some (.int (K1.length : Int)) := by
      have := A.at_
      unfold cnt at this
      rw [Fd.len_list, List.length_map, this]
    have hps : PyData.tuple (psD (n + 1) t) = .tuple ((P1 ++ c :: P2).map (trD n)) := by
      rw [← A.ps]
      rfl
    have hie : (psD (n + 1) t).isEmpty = false := by
      have : psD (n + 1) t = (P1 ++ c :: P2).map (trD n) := PyData.tuple.inj hps
      rw [this]
      cases P1 <;> rfl
    have hE := (eq_nil (okD_ps (n + 1) t) (by omega)).1
    rw [hie] at hE
    have gP : ∀ (e : Tr (n + 1)), ixD (.tuple ((P1 ++ e :: P2).map (trD n))) (.int (K1.length : Int)) = some (trD n e) := fun e => by
      refine at_nat ?_
      rw [List.getElem?_map, ← A.l1]
      simp
    have t1 : ((P1 ++ c :: P2).map (trD n)).take K1.length = P1.map (trD n) := by rw [← List.map_take, ← A.l1, take0]
    have t2 : ((P1 ++ c :: P2).map (trD n)).drop (K1.length + 1) = P2.map (trD n) := by rw [← List.map_drop, ← A.l1, drop1]
    have q1 := @sT_to ((P1 ++ c :: P2).map (trD n)) K1.length
    have q2 := @sT_from1 ((P1 ++ c :: P2).map (trD n)) K1.length
    rw [t1] at q1
    rw [t2] at q2
    have q3 : addD (.tuple (P1.map (trD n))) (.tuple [trD n (tk n c (kyOf t key))]) = some (.tuple (P1.map (trD n) ++ [trD n (tk n c (kyOf t key))])) := addT (by rw [List.length_map]; show _ + 1 ≤ _; omega)
    have q4 : addD (.tuple (P1.map (trD n) ++ [trD n (tk n c (kyOf t key))])) (.tuple (P2.map (trD n))) = some (.tuple ((P1 ++ tk n c (kyOf t key) :: P2).map (trD n))) := by
      rw [addT (by rw [List.length_append, List.length_map, List.length_map]; show _ + 1 + _ ≤ _; omega)]
      simp
    have l2' := A.l2.trans B.len.symm
    show fnD 5 (m__law_taken (FR__law_taken (d + n + 1))) _ = _
    refine taken_run (KS' := kD (K1 ++ K2')) (items_tr t) hE lc hcn (by rw [hps]; exact gP c) ?_ ih (by rw [hps]; exact q1) q3 (by rw [hps]; exact q2) q4 (gP _) (ix_tr0 _) ?_
    · rcases B.kcs with ⟨hm, hky, K3, e1, e2⟩ | ⟨hm, hky, e2⟩
      · right
        rw [hky]
        refine ⟨by rw [in_ints, anyI_mem, decide_eq_true hm], e_lastF (by omega) c oc, kD K1, kD (K1 ++ [lastK n c]), kD K3, ?_, ?_, ?_, ?_⟩
        · have := @sT_to (t.ks.map .int) K1.length
          rw [← List.map_take, A.ks, take0] at this
          show slD (.tuple (t.ks.map .int)) none _ = _
          rw [A.ks]
          exact this
        · rw [addT (by rw [List.length_map]; show _ + 1 ≤ _; omega)]
          show some (kD K1 |> fun _ => PyData.tuple (K1.map .int ++ [.int (lastK n c)])) = _
          simp [kD]
        · have := @sT_from1 (t.ks.map .int) K1.length
          rw [← List.map_drop, A.ks, e1, drop1] at this
          show slD (.tuple (t.ks.map .int)) _ none = _
          rw [A.ks, e1]
          exact this
        · rw [e1, List.length_cons] at lK
          rw [addT (by rw [List.length_map, List.length_map, List.length_append]; show _ + 1 + _ ≤ _; omega), e2]
          simp [kD]
      · left
        exact ⟨by rw [in_ints, anyI_mem, decide_eq_false hm], hky, by rw [e2, ← A.ks]⟩
    · rw [B.tke]
      by_cases ce : (tk n c (kyOf t key)).ks = []
      · right
        obtain ⟨b, eta, ob⟩ := tk_nil oc sc B.inn ce
        have hlb : (tk n c (kyOf t key)).ps.length ≤ 20 := by rw [eta]; show 1 ≤ 20; decide
        refine ⟨by rw [neD_ks, ce]; rfl, ((K1 ++ K2').length : Int), by show some (PyData.int (((K1 ++ K2').map PyData.int).length : Int)) = _; rw [List.length_map], ?_⟩
        rw [if_neg (by rw [ce]; simp)]
        cases hK2 : K2' with
        | cons k K3 =>
          left
          rw [hK2] at l2'
          match P2, l2' with
          | q :: P3, lq =>
            rw [if_pos (by rw [List.length_append]; simp)]
            refine ⟨by rw [List.length_append, List.length_cons]; omega, ?_⟩
            exact e_behind (e := tk n c (kyOf t key)) (q := q) (by rw [← A.l1]; simp) (by rw [← A.l1, List.getElem?_append_right (by omega)]; simp) (by rw [List.length_append, List.length_cons]; omega) (by rw [← hK2, List.length_append, B.len]; omega) (by rw [List.length_append, List.length_cons]; omega) hlb (ho.2.2.2 q (by rw [A.ps]; simp))
        | nil =>
          right
          rw [hK2] at l2'
          have hP2 : P2 = [] := List.length_eq_zero_iff.mp l2'
          have hK20 : K2 = [] := List.length_eq_zero_iff.mp (by rw [← A.l2, hP2]; rfl)
          have h1 := ho.2.1
          rw [A.ks, hK20, List.append_nil] at h1
          have hPn : P1 ≠ [] := fun z => by
            have := A.l1
            rw [z] at this
            rw [← this] at h1
            cases h1
          have eP := List.dropLast_concat_getLast hPn
          rw [List.append_nil, if_neg (by omega), hP2]
          refine ⟨by omega, ?_⟩
          have lj : K1.length = (K1.length - 1) + 1 := by omega
          have lD : P1.dropLast.length = K1.length - 1 := by rw [List.length_dropLast, A.l1]
          have z := e_ahead (n := n) (ks := K1) (ps := P1 ++ [tk n c (kyOf t key)]) (j := K1.length - 1) (e := tk n c (kyOf t key)) (q := P1.getLast hPn) (by rw [← lj, ← A.l1]; simp) (by
            conv => lhs; rw [← eP]
            rw [List.append_assoc, List.getElem?_append_right (by omega), lD]
            simp) (by omega) (by rw [List.length_append]; show _ + 1 ≤ _; omega) hlb (ho.2.2.2 _ (by rw [A.ps]; exact List.mem_append_left _ (List.getLast_mem hPn)))
          rw [← lj] at z
          rw [show ((K1.length - 1 : Nat) : Int) + 1 = (K1.length : Int) by omega] at z
          exact z
      · left
        rw [if_pos ce]
        refine ⟨?_, rfl⟩
        rw [neD_ks]
        cases hz : (tk n c (kyOf t key)).ks with
        | nil => exact absurd hz ce
        | cons _ _ => rfl
end Tk
end

section
set_option Elab.async false
set_option linter.all false
set_option maxRecDepth 100000
set_option maxHeartbeats 1000000
/-! k67: rows of a tree, as the law tells them; what is due. -/
namespace Tk
open PySem PySem.Spec PyProof.Rows L2 Evl Tb Fd
theorem weave_perm {α : Type} : ∀ (P : List (List α)) (K : List α), P.length = K.length + 1 → (weave P K).Perm (K ++ P.flatten)
  | [p], [], _ => by
    show p.Perm (p ++ [])
    rw [List.append_nil]
  | p :: q :: P, k :: K, h => by
    rw [weave, List.flatten_cons, List.cons_append]
    have ih := weave_perm (q :: P) K (by simpa using h)
    have h1 : (p ++ k :: weave (q :: P) K).Perm (k :: (p ++ weave (q :: P) K)) := List.perm_middle
    refine h1.trans (List.Perm.cons k ?_)
    have h2 : (p ++ weave (q :: P) K).Perm (p ++ (K ++ (q :: P).flatten)) := ih.append_left p
    refine h2.trans ?_
    rw [← List.append_assoc, ← List.append_assoc]
    exact List.perm_append_comm.append_right _
theorem sortU_pairs {ps : List (Int × Int)} (h : ps ≠ []) : sortedUD [.list (ps.map prTup)] = some ((sortP ps).map prTup) := by
  have e : sortedD [.list (ps.map prTup)] = none := by
    cases ps with
    | nil => exact absurd rfl h
    | cons p ps => rfl
  unfold sortedUD
  rw [e]
  show (prsOf (ps.map prTup)).map (fun ps => (sortP ps).map prTup) = _
  rw [prsOf_map]
  rfl
theorem srt_le {F : Tw} (h : srt (F.map (·.1))) : F.Pairwise fun x y => leP x y = true := by
  rw [srt, List.pairwise_map] at h
  exact h.imp fun h => leP_iff.mpr (.inl h)
theorem rows_loop {R : List PyData → Option (List PyData)} {n : Nat} {T : PyData} {lv : Int} : ∀ (P : List (Tr (n + 1))) (F0 : Tw) (x3 : Sl), (∀ p ∈ P, R [trD n p, .int (lv - 1)] = some ((flat (n + 1) p).map prTup)) → F0.length + ((P.map (flat (n + 1))).flatten).length ≤ 1000 → (x3 = .no ∨ ∃ x, x3 = .d x) →
    ∃ x3', runFor (dName 3) (m__law_rows_L1 R) (P.map (trD n)) [.d T, .d (.int lv), .d (.list (F0.map prTup)), x3, .no] = some (.nx [.d T, .d (.int lv), .d (.list ((F0 ++ (P.map (flat (n + 1))).flatten).map prTup)), x3', .no])
  | [], F0, x3, _, _, _ => ⟨x3, by
    rw [show (([] : List (Tr (n + 1))).map (flat (n + 1))).flatten = [] from rfl, List.append_nil]
    rfl⟩
  | p :: P, F0, x3, hR, hl, f => by
    rw [List.map_cons, List.flatten_cons, List.length_append] at hl
    obtain ⟨x3', h⟩ := rows_loop P (F0 ++ flat (n + 1) p) (.d (trD n p)) (fun q hq => hR q (List.mem_cons_of_mem _ hq)) (by rw [List.length_append]; omega) (.inr ⟨_, rfl⟩)
    refine ⟨x3', ?_⟩
    have r := hR p List.mem_cons_self
    have ad : addD (.list (F0.map prTup)) (.list ((flat (n + 1) p).map prTup)) = some (.list ((F0 ++ flat (n + 1) p).map prTup)) := by
      show (if (F0.map prTup).length + ((flat (n + 1) p).map prTup).length ≤ 100000 then _ else none) = _
      rw [if_pos (by rw [List.length_map, List.length_map]; omega), ← List.map_append]
    have e : F0 ++ ((p :: P).map (flat (n + 1))).flatten = F0 ++ flat (n + 1) p ++ (P.map (flat (n + 1))).flatten := by rw [List.map_cons, List.flatten_cons, List.append_assoc]
    rw [e, ← h, List.map_cons]
    generalize (F0 ++ flat (n + 1) p).map prTup = X1 at *
    generalize F0.map prTup = X0 at *
    generalize (flat (n + 1) p).map prTup = X2 at *
    generalize trD n p = TP at *
    refine runFor_cons_nx (e1 := [.d T, .d (.int lv), .d (.list X0), .d TP, .no]) ?_ ?_
    · rcases f with rfl | ⟨y, rfl⟩ <;> simp [setD, canSet]
    · simp [m__law_rows_L1, r, ad, setD, canSet]
theorem lc_row {T KS : PyData} {lv : Int} {ks : List Int} (h0 : ixD T (.int 0) = some KS) (h1 : itemsOf KS = some (ks.map .int)) (hl : ks.length ≤ 40000) : dLc (dItems (dOp ixD (dVar 0) (dK (.int 0)))) (dName 4) (dK true) (dTup (dCons (dVar 4) (dCons (dVar 1) (dK [])))) [4] [.d T, .d (.int lv), .no, .no, .no] =
    some ((ks.map fun k => (k, lv)).map prTup, [.d T, .d (.int lv), .no, .no, .no]) := by
  have e : (ks.map PyData.int).filterMap (fun d => match d with | .int k => some (prTup (k, lv)) | _ => none) = (ks.map fun k => (k, lv)).map prTup := by
    rw [List.filterMap_map, List.map_map]
    exact congrFun (List.filterMap_eq_map (f := fun k : Int => prTup (k, lv))) ks
  rw [← e]
  refine dLc_map _ (by simp [h0, h1]) rfl (by rw [List.length_map]; exact hl) rfl fun d hd => ?_
  obtain ⟨k, _, rfl⟩ := List.mem_map.mp hd
  exact ⟨[.d T, .d (.int lv), .no, .no, .d (.int k)], [.d T, .d (.int lv), .no, .no, .d (.int k)], by simp [wipeE, setD, canSet], [.d T, .d (.int lv), .no, .no, .d (.int k)], by simp, by simp [small], by simp [wipeE]⟩
theorem rows_run {R : List PyData → Option (List PyData)} {T KS PS : PyData} {lv : Int} {ks : List Int} {TS : List PyData} {F0 F : List PyData} {Z : List PyData} {x3 : Sl} (h0 : ixD T (.int 0) = some KS) (h1 : itemsOf KS = some (ks.map .int)) (h2 : ixD T (.int 1) = some PS) (h3 : itemsOf PS = some TS) (hl : ks.length ≤ 40000) (e0 : (ks.map fun k => (k, lv)).map prTup = F0)
    (hr : runFor (dName 3) (m__law_rows_L1 R) TS [.d T, .d (.int lv), .d (.list F0), .no, .no] = some (.nx [.d T, .d (.int lv), .d (.list F), x3, .no])) (hs : sortedUD [.list F] = some Z) : fnL 3 (m__law_rows R) [T, .int lv] = some Z := by
  have lc := lc_row (lv := lv) h0 h1 hl
  rw [e0] at lc
  simp [fnL, m__law_rows, init, lc, setD, canSet, h2, h3, hr, hs]
theorem e_rows : ∀ (n d : Nat) (t : Tr (n + 1)), okN (n + 1) t → srt ((flat (n + 1) t).map (·.1)) → (flat (n + 1) t).length ≤ 1000 → FR__law_rows (d + n + 1) [trD n t, .int ((n : Int) + 1)] = some ((flat (n + 1) t).map prTup)
  | 0, d, t, ho, hs, hl => by
    have hf : flat 1 t = t.ks.map fun k => (k, (1 : Int)) := leaf_weave _ _ (by rw [List.length_map, List.length_map]; exact ho.1) fun p hp => by
      obtain ⟨q, _, rfl⟩ := List.mem_map.mp hp
      rfl
    have hne : flat 1 t ≠ [] := fun z => by
      rw [hf] at z
      have := List.map_eq_nil_iff.mp z
      have h1 := ho.2.1
      rw [this] at h1
      cases h1
    have so := sortU_pairs hne
    rw [← sortP_of (srt_le hs) (List.Perm.refl _)] at so
    have e1 : ((0 : Nat) : Int) + 1 = 1 := rfl
    rw [e1]
    show fnL 3 (m__law_rows (FR__law_rows (d + 0))) _ = _
    exact rows_run (ks := t.ks) (TS := []) (F := (flat 1 t).map prTup) (F0 := (flat 1 t).map prTup) (x3 := .no) (ix_tr0 t) rfl (ix_tr1 t) rfl (by have := ho.2.2.1; omega) (by rw [hf]) rfl so
  | n + 1, d, t, ho, hs, hl => by
    have lv : ((n + 1 : Nat) : Int) + 1 = (n : Int) + 2 := by omega
    have fe : flat (n + 2) t = weave (t.ps.map (flat (n + 1))) (t.ks.map fun k => (k, (n : Int) + 2)) := by
      rw [← lv]
      rfl
    have hlen : (t.ps.map (flat (n + 1))).length = (t.ks.map fun k => (k, (n : Int) + 2)).length + 1 := by rw [List.length_map, List.length_map]; exact ho.1
    have hl2 : (flat (n + 2) t).length ≤ 1000 := hl
    have pe := weave_perm _ _ hlen
    rw [← fe] at pe
    have ll := pe.length_eq
    rw [List.length_append] at ll
    have hne : (t.ks.map fun k => (k, (n : Int) + 2)) ++ (t.ps.map (flat (n + 1))).flatten ≠ [] := fun z => by
      have := (List.append_eq_nil_iff.mp z).1
      have := List.map_eq_nil_iff.mp this
      have h1 := ho.2.1
      rw [this] at h1
      cases h1
    have so := sortU_pairs hne
    rw [← sortP_of (srt_le hs) pe] at so
    have mem : ∀ p ∈ t.ps, (flat (n + 1) p).Sublist (flat (n + 2) t) := fun p hp => by
      have gen : ∀ (P : List Tw) (K : Tw), P.length = K.length + 1 → ∀ p ∈ P, p.Sublist (weave P K) := by
        intro P
        induction P with
        | nil => intro K h; cases h
        | cons q P ih =>
          intro K h p hp
          match P, K, h, ih with
          | [], [], _, _ =>
            rw [List.mem_singleton.mp hp]
            exact List.Sublist.refl _
          | r :: P, k :: K, h, ih =>
            rw [weave]
            rcases List.mem_cons.mp hp with rfl | hp
            · exact List.sublist_append_left _ _
            · exact ((ih K (by simpa using h) p hp).trans (List.sublist_cons_self _ _)).trans (List.sublist_append_right _ _)
      rw [fe]
      exact gen _ _ hlen _ (List.mem_map.mpr ⟨p, hp, rfl⟩)
    have hR : ∀ p ∈ t.ps, FR__law_rows (d + n + 1) [trD n p, .int ((n : Int) + 2 - 1)] = some ((flat (n + 1) p).map prTup) := fun p hp => by
      have sl := mem p hp
      have := e_rows n d p (ho.2.2.2 p hp) (List.Pairwise.sublist (sl.map _) hs) (by have := sl.length_le; omega)
      rw [show (n : Int) + 2 - 1 = (n : Int) + 1 by omega]
      exact this
    obtain ⟨x3, lp⟩ := rows_loop (T := trD (n + 1) t) (lv := (n : Int) + 2) t.ps (t.ks.map fun k => (k, (n : Int) + 2)) .no hR (by omega) (.inl rfl)
    rw [lv]
    show fnL 3 (m__law_rows (FR__law_rows (d + n + 1))) _ = _
    exact rows_run (ks := t.ks) (TS := t.ps.map (trD n)) (ix_tr0 t) rfl (ix_tr1 t) rfl (by have := ho.2.2.1; omega) rfl lp so
end Tk
end

section
set_option Elab.async false
set_option linter.all false
set_option maxRecDepth 100000
set_option maxHeartbeats 1000000
/-! k67: what is due, and whether it comes. -/
namespace Tk
open PySem PySem.Spec PyProof.Rows L2 Evl Tb Fd
theorem maxD_top {n : Nat} {t : Tr (n + 1)} (ho : okN (n + 1) t) : maxD [.list ((H (n + 1) t).map .int)] = some (.int ((n : Int) + 1)) := by
  obtain ⟨lo, hk, hlen⟩ := H_low ho
  have hm : (n : Int) + 1 ∈ H (n + 1) t := by
    have hne : t.ks ≠ [] := fun z => by
      have := ho.2.1
      rw [z] at this
      cases this
    obtain ⟨k, hk'⟩ := List.exists_mem_of_ne_nil _ hne
    exact (mem_weave hlen).mpr (.inl (List.mem_map.mpr ⟨k, hk', rfl⟩))
  have le := H_le (n + 1) t ho
  cases hh : H (n + 1) t with
  | nil =>
    rw [hh] at hm
    cases hm
  | cons x xs =>
    rw [hh] at hm le
    obtain ⟨a1, a2, a3⟩ := fold_max_mem xs x
    have e : xs.foldl max x = (n : Int) + 1 := by
      have h1 : xs.foldl max x ≤ (n : Int) + 1 := by
        rcases a1 with a1 | a1
        · rw [a1]
          exact (le x List.mem_cons_self).2
        · exact (le _ (List.mem_cons_of_mem _ a1)).2
      rcases List.mem_cons.mp hm with z | z
      · omega
      · have := a3 _ z
        omega
    show maxD [.list ((x :: xs).map .int)] = _
    simp only [maxD, intsOf_map, e]
theorem due_run {T N M Z : PyData} {HH : List PyData} {key lv : Int} {KN PN : PyData} {b1 b2 : Bool}
    (hl : dLc (dItems (dVar 0)) (dRow 2 (dGs (dName 4) (dGs (dName 5) dNil))) (dK true) (dVar 5) [4, 5] [.d T, .d (.int key), .no, .no, .no, .no] = some (HH, [.d T, .d (.int key), .no, .no, .no, .no]))
    (hm : maxD [.list HH] = some (.int lv)) (hn : F__law_node [T, .int lv] = some M) (ht : F__law_taken [M, .int key] = some N) (h0 : ixD N (.int 0) = some KN) (e0 : eqD KN (.tuple []) = some (.bool b1)) (h1 : ixD N (.int 1) = some PN) (e1 : neD PN (.tuple []) = some (.bool b2))
    (hz : (b1 = false ∧ ∃ zs, F__law_rows [N, .int lv] = some zs ∧ Z = .list zs) ∨ (b1 = true ∧ b2 = false ∧ Z = .list []) ∨ (b1 = true ∧ b2 = true ∧ ∃ C zs, ixD PN (.int 0) = some C ∧ F__law_rows [C, .int (lv - 1)] = some zs ∧ Z = .list zs)) : F__law_due [T, .int key] = some Z := by
  have s0 : small [] = true := rfl
  rcases hz with ⟨rfl, zs, hr, rfl⟩ | ⟨rfl, rfl, rfl⟩ | ⟨rfl, rfl, C, zs, hc, hr, rfl⟩
  · simp [F__law_due, fnD, m__law_due, init, dCb, hl, hm, setD, canSet, hn, ht, h0, e0, s0, hr, retD]
  · simp [F__law_due, fnD, m__law_due, init, dCb, hl, hm, setD, canSet, hn, ht, h0, e0, h1, e1, s0, retD]
  · simp [F__law_due, fnD, m__law_due, init, dCb, hl, hm, setD, canSet, hn, ht, h0, e0, h1, e1, s0, hc, hr, retD]
theorem due_empty : ∀ (n : Nat) (u : Tr (n + 1)), u.ks = [] → (∃ c, u.ps = [c] ∧ okN n c) → srt ((flat (n + 1) u).map (·.1)) → (flat (n + 1) u).length ≤ 1000 → n ≤ 3 → ∃ b2, neD (.tuple (psD n u)) (.tuple []) = some (.bool b2) ∧
    ((b2 = false ∧ flat (n + 1) u = []) ∨ (b2 = true ∧ ∃ C, ixD (.tuple (psD n u)) (.int 0) = some C ∧ F__law_rows [C, .int ((n : Int) + 1 - 1)] = some ((flat (n + 1) u).map prTup)))
  | 0, u, hk, ⟨c, hc, _⟩, _, _, _ => by
    refine ⟨false, (eq_nil (m := 1) (xs := psD 0 u) rfl (by decide)).2, .inl ⟨rfl, ?_⟩⟩
    show weave (u.ps.map (flat 0)) (u.ks.map fun k => (k, ((0 : Nat) : Int) + 1)) = []
    rw [hk, hc]
    rfl
  | n + 1, u, hk, ⟨c, hc, oc⟩, hs, hl, hn => by
    have fe : flat (n + 2) u = flat (n + 1) c := by
      show weave (u.ps.map (flat (n + 1))) (u.ks.map fun k => (k, ((n + 1 : Nat) : Int) + 1)) = _
      rw [hk, hc]
      rfl
    have pe : psD (n + 1) u = [trD n c] := by
      show u.ps.map (trD n) = _
      rw [hc]
      rfl
    have z := (eq_nil (okD_ps (n + 1) u) (by omega)).2
    rw [pe] at z ⊢
    refine ⟨true, z, .inr ⟨rfl, trD n c, at_0 .., ?_⟩⟩
    have hs2 : srt ((flat (n + 2) u).map (·.1)) := hs
    have hl2 : (flat (n + 2) u).length ≤ 1000 := hl
    rw [fe] at hs2 hl2
    have r := e_rows n (3 - n) c oc hs2 hl2
    rw [show 3 - n + n + 1 = 4 by omega] at r
    show F__law_rows [trD n c, .int (((n + 1 : Nat) : Int) + 1 - 1)] = some ((flat (n + 2) u).map prTup)
    rw [fe, show ((n + 1 : Nat) : Int) + 1 - 1 = (n : Int) + 1 by omega]
    exact r
theorem e_due {n : Nat} {t : Tr (n + 1)} {key : Int} (hn : n ≤ 3) (ho : okN (n + 1) t) (hs : srt (keysT (n + 1) t)) (hk : key ∈ keysT (n + 1) t) (hl : (flat (n + 1) t).length ≤ 1000) : F__law_due [twD true false (flat (n + 1) t), .int key] = some (.list ((flat (n + 1) (tk n t key)).map prTup)) := by
  have sk : srt ((flat (n + 1) t).map (·.1)) := by rw [keys_flat]; exact hs
  have lc := lc_heights (ts := flat (n + 1) t) true false [.d (twD true false (flat (n + 1) t)), .d (.int key), .no, .no, .no, .no] 4 5 0 rfl (by omega) rfl rfl fun p => ⟨[.d (twD true false (flat (n + 1) t)), .d (.int key), .no, .no, .d (.int p.1), .d (.int p.2)], by
    have : itemsOf (Tb.prD false p) = some [.int p.1, .int p.2] := items_rowsD ..
    simp [this, setD, canSet, wipeE], rfl, rfl⟩
  rw [H_flat] at lc
  have nd := e_node n (3 - n) t ho sk hl
  rw [show 3 - n + n + 1 = 4 by omega] at nd
  have ta := e_taken n (3 - n) t key hn ho hs hk
  rw [show 3 - n + n + 1 = 4 by omega] at ta
  obtain ⟨ma, mb⟩ := main67 n t key ho hs hk [] [] fun l _ _ => ⟨.nil, .nil⟩
  obtain ⟨o1, o2, o3, o4⟩ := out_tree ho hs hk hl (by omega)
  have sr : srt ((flat (n + 1) (tk n t key)).map (·.1)) := by
    rw [o3, keys_flat]
    exact srt_filter _ hs
  by_cases ce : (tk n t key).ks = []
  · obtain ⟨⟨c, hc, oc⟩, _⟩ := mb ce
    have eta : tk n t key = mkT [] [c] := by
      have := mk_eta (tk n t key)
      rw [ce, hc] at this
      exact this.symm
    have fc : flat (n + 1) (tk n t key) = flat n c := by rw [eta]; rfl
    have kd : eqD (kD (tk n t key).ks) (.tuple []) = some (.bool true) := by rw [eqD_ks, ce]; rfl
    obtain ⟨b2, h1, h2⟩ := due_empty n (tk n t key) ce ⟨c, hc, oc⟩ sr o4 hn
    refine due_run (b1 := true) (b2 := b2) lc (maxD_top ho) nd ta (ix_tr0 _) kd (ix_tr1 _) h1 ?_
    rcases h2 with ⟨e, f⟩ | ⟨e, C, hC, hr⟩
    · exact .inr (.inl ⟨rfl, e, by rw [f]; rfl⟩)
    · exact .inr (.inr ⟨rfl, e, C, _, hC, hr, rfl⟩)
  · obtain ⟨ok', _⟩ := ma ce
    have rw4 := e_rows n (3 - n) (tk n t key) ok' sr o4
    rw [show 3 - n + n + 1 = 4 by omega] at rw4
    refine due_run (b1 := false) (b2 := !(psD n (tk n t key)).isEmpty) lc (maxD_top ho) nd ta (ix_tr0 _) ?_ (ix_tr1 _) (eq_nil (okD_ps n _) (by omega)).2 (.inl ⟨rfl, _, rw4, rfl⟩)
    rw [eqD_ks]
    cases hz : (tk n t key).ks with
    | nil => exact absurd hz ce
    | cons _ _ => rfl
end Tk
end

section
set_option Elab.async false
set_option linter.all false
set_option maxRecDepth 100000
set_option maxHeartbeats 1000000
/-! k67: it comes rightly; woven rows. -/
namespace Tk
open PySem PySem.Spec PyProof.Rows L2 Evl Tb Fd
theorem okD_twF (F : Tw) : okD 2 (twD false false F) = true := by
  show (F.map (Tb.prD false)).all (okD 1) = true
  rw [List.all_eq_true]
  intro d hd
  obtain ⟨q, _, rfl⟩ := List.mem_map.mp hd
  rfl
theorem right_run {T Tt Hd Du : PyData} {L : List PyData} {key : PyData} (ht : tupD [T] = some Tt) (ho : F_out_gapped [Tt, key] = some Hd) (hd : F__law_due [T, key] = some Du) (hdt : tupD [Du] = some Hd) (hne : neD Hd Hd = some (.bool false)) (heq : eqD Hd Hd = some (.bool true)) (hg : F_is_gapped [Hd, .int 1, .int 3] = some (.bool true))
    (h1 : dLc (dItems (dVar 0)) (dRow 2 (dGs (dName 3) (dGs (dName 4) dNil))) (dTest (dOp neD (dVar 3) (dVar 1))) (dVar 3) [3, 4] [.d T, .d key, .d Hd, .no, .no, .no] = some (L, [.d T, .d key, .d Hd, .no, .no, .no]))
    (h2 : dLc (dItems (dVar 2)) (dRow 2 (dGs (dName 3) (dGs (dName 4) dNil))) (dK true) (dVar 3) [3, 4] [.d T, .d key, .d Hd, .no, .no, .no] = some (L, [.d T, .d key, .d Hd, .no, .no, .no]))
    (hL : neD (.list L) (.list L) = some (.bool false)) {TT : List PyData}
    (h3 : dLc (dItems (dVar 0)) (dName 5) (dK true) (dFz (dCbL lstD (dCons (dVar 5) (dK [])))) [5] [.d T, .d key, .d Hd, .no, .no, .no] = some (TT, [.d T, .d key, .d Hd, .no, .no, .no]))
    (ho2 : F_out_gapped [.list TT, key] = some Hd) : F__law_is_right [T, key] = some (.bool true) := by
  simp [F__law_is_right, fnD, m__law_is_right, init, dCb, ht, ho, setD, canSet, hd, hdt, hne, hg, h1, h2, hL, h3, ho2, heq, retD]
theorem e_right {n : Nat} {t : Tr (n + 1)} {key : Int} (hn : n ≤ 3) (ho : okN (n + 1) t) (hs : srt (keysT (n + 1) t)) (hk : key ∈ keysT (n + 1) t) (hl : (flat (n + 1) t).length ≤ 1000) : F__law_is_right [twD true false (flat (n + 1) t), .int key] = some (.bool true) := by
  obtain ⟨o1, o2, o3, o4⟩ := out_tree ho hs hk hl (by omega)
  have du := e_due hn ho hs hk hl
  have ok2 := okD_twF (flat (n + 1) (tk n t key))
  have l1 := lc_twP (c := false) (ts := flat (n + 1) t) (it := dItems (dVar 0)) (g := dRow 2 (dGs (dName 3) (dGs (dName 4) dNil))) (test := dTest (dOp neD (dVar 3) (dVar 1))) (f := dVar 3) (vs := [3, 4])
    (e := [.d (twD true false (flat (n + 1) t)), .d (.int key), .d (twD false false (flat (n + 1) (tk n t key))), .no, .no, .no]) (w := [.d (twD true false (flat (n + 1) t)), .d (.int key), .d (twD false false (flat (n + 1) (tk n t key))), .no, .no, .no])
    (e0 := [.d (twD true false (flat (n + 1) t)), .d (.int key), .d (twD false false (flat (n + 1) (tk n t key))), .no, .no, .no]) (fun q => !decide (q.1 = key)) (fun q => .int q.1) (by simp [items_tw]) rfl rfl rfl (by omega) fun q => by
      generalize twD true false (flat (n + 1) t) = T at *
      generalize twD false false (flat (n + 1) (tk n t key)) = T2 at *
      exact ⟨[.d T, .d (.int key), .d T2, .d (.int q.1), .d (.int q.2), .no], by simp [items_pr, setD, canSet], by simp, by simp, rfl⟩
  have l2 := lc_twP (c := false) (ts := flat (n + 1) (tk n t key)) (it := dItems (dVar 2)) (g := dRow 2 (dGs (dName 3) (dGs (dName 4) dNil))) (test := dK true) (f := dVar 3) (vs := [3, 4])
    (e := [.d (twD true false (flat (n + 1) t)), .d (.int key), .d (twD false false (flat (n + 1) (tk n t key))), .no, .no, .no]) (w := [.d (twD true false (flat (n + 1) t)), .d (.int key), .d (twD false false (flat (n + 1) (tk n t key))), .no, .no, .no])
    (e0 := [.d (twD true false (flat (n + 1) t)), .d (.int key), .d (twD false false (flat (n + 1) (tk n t key))), .no, .no, .no]) (fun _ => true) (fun q => .int q.1) (by simp [items_tw]) rfl rfl rfl (by omega) fun q => by
      generalize twD true false (flat (n + 1) t) = T at *
      generalize twD false false (flat (n + 1) (tk n t key)) = T2 at *
      exact ⟨[.d T, .d (.int key), .d T2, .d (.int q.1), .d (.int q.2), .no], by simp [items_pr, setD, canSet], by simp, by simp, rfl⟩
  have l3 := lc_twP (c := false) (ts := flat (n + 1) t) (it := dItems (dVar 0)) (g := dName 5) (test := dK true) (f := dFz (dCbL lstD (dCons (dVar 5) (dK [])))) (vs := [5])
    (e := [.d (twD true false (flat (n + 1) t)), .d (.int key), .d (twD false false (flat (n + 1) (tk n t key))), .no, .no, .no]) (w := [.d (twD true false (flat (n + 1) t)), .d (.int key), .d (twD false false (flat (n + 1) (tk n t key))), .no, .no, .no])
    (e0 := [.d (twD true false (flat (n + 1) t)), .d (.int key), .d (twD false false (flat (n + 1) (tk n t key))), .no, .no, .no]) (fun _ => true) (Tb.prD true) (by simp [items_tw]) rfl rfl rfl (by omega) fun q => by
      have el : lstD [Tb.prD false q] = some [.int q.1, .int q.2] := rfl
      have ep : PyData.list [.int q.1, .int q.2] = Tb.prD true q := rfl
      generalize twD true false (flat (n + 1) t) = T at *
      generalize twD false false (flat (n + 1) (tk n t key)) = T2 at *
      generalize Tb.prD false q = Q at *
      generalize Tb.prD true q = Q2 at *
      exact ⟨[.d T, .d (.int key), .d T2, .no, .no, .d Q], by simp [setD, canSet], by simp, by simp [el, ep], rfl⟩
  rw [filter_all] at l2 l3
  have eL : ((flat (n + 1) t).filter fun q => !decide (q.1 = key)).map (fun q => PyData.int q.1) = ((flat (n + 1) (tk n t key)).map (fun q => q.1)).map .int := by
    rw [o3, List.filter_map, List.map_map]
    congr 1
    congr 1
    funext q
    simp
  have eR : (flat (n + 1) (tk n t key)).map (fun q => PyData.int q.1) = ((flat (n + 1) (tk n t key)).map (fun q => q.1)).map .int := by
    rw [List.map_map]
    rfl
  rw [eL] at l1
  rw [eR] at l2
  exact right_run (Tt := twD false false (flat (n + 1) t)) rfl (o1 false false) du rfl (neD_same 2 ok2 (by decide)) (eqD_same 2 ok2 (by decide)) o2 l1 l2 (neD_same 1 (okD_ints 0 _) (by decide)) l3 (o1 true true)
/-! ### woven rows -/
structure WvR (L i : Nat) (row : List Int) : Prop where
  sh : ∃ P : List (List Int), P.length = i + 1 ∧ (∀ p ∈ P, Sh L p) ∧ row = weave P (List.replicate i ((L : Int) + 1))
  ln : row.length + 1 ≤ (i + 1) * 4 ^ L
theorem wvR_0 {L : Nat} {w : List Int} (h : Sh L w) (hl : w.length + 1 ≤ 4 ^ L) : WvR L 0 w := ⟨⟨[w], rfl, fun p hp => by rw [List.mem_singleton.mp hp]; exact h, rfl⟩, by omega⟩
theorem wvR_s {L i : Nat} {row w : List Int} (h : WvR L i row) (hw : Sh L w) (hl : w.length + 1 ≤ 4 ^ L) : WvR L (i + 1) (row ++ [(L : Int) + 1] ++ w) := by
  obtain ⟨⟨P, h1, h2, rfl⟩, h4⟩ := h
  refine ⟨⟨P ++ [w], by rw [List.length_append, h1]; rfl, fun p hp => ?_, ?_⟩, ?_⟩
  · rcases List.mem_append.mp hp with hp | hp
    · exact h2 p hp
    · rw [List.mem_singleton.mp hp]
      exact hw
  · rw [List.replicate_succ', weave_snoc P _ _ w (by rw [List.length_replicate, h1])]
    simp
  · rw [List.length_append, List.length_append]
    show _ + 1 + _ + 1 ≤ _
    have : (i + 1 + 1) * 4 ^ L = (i + 1) * 4 ^ L + 4 ^ L := Nat.succ_mul _ _
    omega
theorem wvR_e {L i : Nat} {row : List Int} (h : WvR L i row) (h1 : 1 ≤ i) (h3 : i ≤ 3) : Sh (L + 1) row ∧ row.length + 1 ≤ 4 ^ (L + 1) := by
  obtain ⟨⟨P, a1, a2, a3⟩, a4⟩ := h
  refine ⟨⟨P, i, a1, h1, h3, a2, a3⟩, ?_⟩
  have : (i + 1) * 4 ^ L ≤ 4 * 4 ^ L := Nat.mul_le_mul_right _ (by omega)
  rw [Nat.pow_succ]
  omega
theorem woven_loop {L : Nat} {R : List PyData → List PyData → Option (PyData × List PyData)} (hR : ∀ t, ∃ w t', R (srcT t) [.int (L : Int)] = some (.list (w.map .int), srcT t') ∧ Sh L w ∧ w.length + 1 ≤ 4 ^ L) (L3 : L ≤ 2) {m : Nat} (m3 : m ≤ 3) {row : List Int} (t : Int × Int × Int) (h : WvR L 0 row) :
    ∃ row' t' x', runFor (dName 3) (m__law_woven_L1 R) (rgD 0 m) [.p (srcT t), .d (.int ((L : Int) + 1)), .d (.list (row.map .int)), .no] = some (.nx [.p (srcT t'), .d (.int ((L : Int) + 1)), .d (.list (row'.map .int)), x']) ∧ WvR L m row' := by
  obtain ⟨e', h1, row', t', x', _, rfl, h2⟩ := runFor_inv (g := dName 3) (b := m__law_woven_L1 R) (fun i e => ∃ row t x, Fr x ∧ e = [.p (srcT t), .d (.int ((L : Int) + 1)), .d (.list (row.map .int)), x] ∧ WvR L i row) (rgD 0 m) 0 _ ⟨row, t, .no, .no, rfl, h⟩ (by
    rintro i d e hi ⟨row, t, x, fx, rfl, h⟩
    have hi2 := (List.getElem?_eq_some_iff.mp hi).1
    unfold rgD at hi2
    rw [List.length_map, List.length_range] at hi2
    rw [Nat.zero_add] at h ⊢
    obtain ⟨w, t', hw, hv, hl⟩ := hR t
    have hs := wvR_s h hv hl
    refine ⟨[.p (srcT t), .d (.int ((L : Int) + 1)), .d (.list (row.map .int)), .d d], [.p (srcT t'), .d (.int ((L : Int) + 1)), .d (.list ((row ++ [(L : Int) + 1] ++ w).map .int)), .d d], ?_, .inl ?_, _, _, _, .d, rfl, hs⟩
    · rcases fx with rfl | ⟨x, rfl⟩ <;> simp [setD, canSet]
    · have p4 : 4 ^ L ≤ 16 := Nat.pow_le_pow_right (n := 4) (by decide) L3
      have l1 := h.ln
      have l3 : (i + 1) * 4 ^ L ≤ 4 * 16 := Nat.mul_le_mul (by omega) p4
      have a1 : addD (.list (row.map .int)) (.list [.int ((L : Int) + 1)]) = some (.list ((row ++ [(L : Int) + 1]).map .int)) := addD_ints (ys := [(L : Int) + 1]) (by show _ + 1 ≤ _; omega)
      have a2 : addD (.list ((row ++ [(L : Int) + 1]).map .int)) (.list (w.map .int)) = some (.list ((row ++ [(L : Int) + 1] ++ w).map .int)) := addD_ints (by rw [List.length_append]; show _ + 1 + _ ≤ _; omega)
      have e1 : (L : Int) + 1 - 1 = L := by omega
      generalize (row ++ [(L : Int) + 1] ++ w).map PyData.int = R2 at *
      generalize (row ++ [(L : Int) + 1]).map PyData.int = R1 at *
      generalize row.map PyData.int = R0 at *
      generalize w.map PyData.int = W0 at *
      generalize srcT t = S0 at *
      generalize srcT t' = S1 at *
      simp [m__law_woven_L1, small, a1, dCallM, ownB, e1, hw, a2, setD, canSet])
  refine ⟨row', t', x', h1, ?_⟩
  unfold rgD at h2
  rw [List.length_map, List.length_range, Nat.zero_add] at h2
  exact h2
theorem e_woven : ∀ (L d : Nat), L ≤ 3 → ∀ t, ∃ w t', FR__law_woven (d + L + 1) (srcT t) [.int (L : Int)] = some (.list (w.map .int), srcT t') ∧ Sh L w ∧ w.length + 1 ≤ 4 ^ L
  | 0, d, _, t => by
    exact ⟨[], t, by simp [FR__law_woven, fnM, m__law_woven, init, small], rfl, by decide⟩
  | L + 1, d, L3, t => by
    have hR := fun t => e_woven L d (by omega) t
    obtain ⟨w, t1, hw, hv, hl⟩ := hR t
    obtain ⟨r, t2, hr, r0, r1⟩ := e_nextT t1 (m := 5) (by decide) (by decide)
    obtain ⟨m, hm, m1, m3⟩ : ∃ m : Nat, ixD (.list [.int 1, .int 1, .int 1, .int 2, .int 3]) (.int r) = some (.int (m : Int)) ∧ 1 ≤ m ∧ m ≤ 3 := by
      have : r = 0 ∨ r = 1 ∨ r = 2 ∨ r = 3 ∨ r = 4 := by omega
      rcases this with rfl | rfl | rfl | rfl | rfl
      · exact ⟨1, rfl, by decide, by decide⟩
      · exact ⟨1, rfl, by decide, by decide⟩
      · exact ⟨1, rfl, by decide, by decide⟩
      · exact ⟨2, rfl, by decide, by decide⟩
      · exact ⟨3, rfl, by decide, by decide⟩
    obtain ⟨row, t3, x', h1, h2⟩ := woven_loop hR (by omega) m3 t2 (wvR_0 hv hl)
    have hb : big (m : Int) = true := decide_eq_true (by omega)
    have c0 : ¬ (L : Int) + 1 = 0 := by omega
    have e1 : (L : Int) + 1 - 1 = L := by omega
    have e2 : ((L + 1 : Nat) : Int) = (L : Int) + 1 := rfl
    obtain ⟨z1, z2⟩ := wvR_e h2 m1 m3
    refine ⟨row, t3, ?_, z1, z2⟩
    rw [e2]
    show fnM 2 (m__law_woven (FR__law_woven (d + L + 1))) (srcT t) _ = _
    generalize FR__law_woven (d + L + 1) = R at *
    generalize row.map PyData.int = R2 at *
    generalize w.map PyData.int = W0 at *
    generalize srcT t = S0 at *
    generalize srcT t1 = S1 at *
    generalize srcT t2 = S2 at *
    generalize srcT t3 = S3 at *
    simp [fnM, m__law_woven, init, c0, dCallM, ownB, e1, hw, setD, canSet, small, hr, hm, hb, h1]
end Tk
end

section
set_option Elab.async false
set_option linter.all false
set_option maxRecDepth 100000
set_option maxHeartbeats 1000000
/-! k67: all rows of up to nine heights. -/
namespace Tk
open PySem PySem.Spec PyProof.Rows L2 Evl Tb Fd
def extR (u : Nat) (lv : Int) (below : List (List Int)) (row : List Int) : List (List Int) := (below.filter fun m => decide (row.length + m.length < u)).map fun m => row ++ [lv] ++ m
def laterR (u : Nat) (lv : Int) (below waiting : List (List Int)) : List (List Int) := waiting.flatMap (extR u lv below)
def levelR (u : Nat) (lv : Int) (below : List (List Int)) : List (List Int) := laterR u lv below below ++ laterR u lv below (laterR u lv below below) ++ laterR u lv below (laterR u lv below (laterR u lv below below))
def row1 : List (List Int) := levelR 9 1 [[]]
def row2 : List (List Int) := levelR 9 2 row1
def row3 : List (List Int) := levelR 9 3 row2
def rowC (u : Nat) (lv : Int) (row : List Int) (d : PyData) : Option PyData := match d with
  | .tuple xs => match intsOf xs with
    | some m => if row.length + m.length < u then some (kD (row ++ [lv] ++ m)) else none
    | none => none
  | _ => none
theorem ext_filter (u : Nat) (lv : Int) (row : List Int) : ∀ below : List (List Int), (below.map kD).filterMap (rowC u lv row) = (extR u lv below row).map kD
  | [] => rfl
  | m :: below => by
    have ih := ext_filter u lv row below
    have e : rowC u lv row (kD m) = if row.length + m.length < u then some (kD (row ++ [lv] ++ m)) else none := by
      show (match intsOf (m.map .int) with | some m => _ | none => _) = _
      rw [intsOf_map]
    rw [List.map_cons, List.filterMap_cons, e]
    unfold extR at ih ⊢
    rw [List.filter_cons]
    by_cases c : row.length + m.length < u
    · rw [if_pos c, if_pos (decide_eq_true c), List.map_cons, List.map_cons, ← ih]
    · rw [if_neg c, if_neg (by simpa using c), ← ih]
theorem len_kD (ks : List Int) : lenD [kD ks] = some (.int (ks.length : Int)) := by
  show some (PyData.int ((ks.map PyData.int).length : Int)) = _
  rw [List.length_map]
theorem add_kD {xs ys : List Int} (h : xs.length + ys.length ≤ 1000) : addD (kD xs) (kD ys) = some (kD (xs ++ ys)) := by
  rw [addT (by rw [List.length_map, List.length_map]; omega)]
  show some (PyData.tuple _) = some (PyData.tuple _)
  rw [List.map_append]
theorem all_L1 {u : Nat} {lv : Int} {row : List Int} {below : List (List Int)} {f w h tn : PyData} {acc : List PyData} (hb : ∀ m ∈ below, m.length ≤ 20) (hr : row.length ≤ 20) (hl : below.length ≤ 1000) (ha : acc.length ≤ 20000) :
    m__law_all_L1 [.d (.int (u : Int)), .d f, .d (.list (below.map kD)), .d (.int lv), .d w, .d h, .d tn, .o acc, .d (kD row), .no] = some (.nx [.d (.int (u : Int)), .d f, .d (.list (below.map kD)), .d (.int lv), .d w, .d h, .d tn, .o (acc ++ (extR u lv below row).map kD), .d (kD row), .no]) := by
  have hfew : few acc = true := decide_eq_true (by omega)
  have hx : ((extR u lv below row).map kD).length < 9000 := by
    unfold extR
    rw [List.length_map, List.length_map]
    have := List.length_filter_le (fun m : List Int => decide (row.length + m.length < u)) below
    omega
  have hlc : dLc (dItems (dVar 2)) (dName 9) (dTest (dOp ltD (dOp addD (dCb lenD (dCons (dVar 8) (dK []))) (dCb lenD (dCons (dVar 9) (dK [])))) (dVar 0))) (dOp addD (dOp addD (dVar 8) (dTup (dCons (dVar 3) (dK [])))) (dVar 9)) [9] [.d (.int (u : Int)), .d f, .d (.list (below.map kD)), .d (.int lv), .d w, .d h, .d tn, .o acc, .d (kD row), .no] =
      some ((extR u lv below row).map kD, [.d (.int (u : Int)), .d f, .d (.list (below.map kD)), .d (.int lv), .d w, .d h, .d tn, .o acc, .d (kD row), .no]) := by
    rw [← ext_filter]
    refine dLc_map _ (by simp) rfl (by rw [List.length_map]; omega) rfl fun d hd => ?_
    obtain ⟨m, hm, rfl⟩ := List.mem_map.mp hd
    have ml := hb m hm
    have e : rowC u lv row (kD m) = if row.length + m.length < u then some (kD (row ++ [lv] ++ m)) else none := by
      show (match intsOf (m.map .int) with | some m => _ | none => _) = _
      rw [intsOf_map]
    rw [e]
    have l1 := len_kD row
    have l2 := len_kD m
    have a1 : addD (kD row) (.tuple [.int lv]) = some (kD (row ++ [lv])) := add_kD (ys := [lv]) (by show _ + 1 ≤ _; omega)
    have a2 : addD (kD (row ++ [lv])) (kD m) = some (kD (row ++ [lv] ++ m)) := add_kD (by rw [List.length_append]; show _ + 1 + _ ≤ _; omega)
    generalize PyData.list (below.map kD) = BB at *
    generalize kD (row ++ [lv] ++ m) = R2 at *
    generalize kD (row ++ [lv]) = R1 at *
    generalize kD row = R0 at *
    generalize kD m = M0 at *
    refine ⟨[.d (.int (u : Int)), .d f, .d BB, .d (.int lv), .d w, .d h, .d tn, .o acc, .d R0, .d M0], [.d (.int (u : Int)), .d f, .d BB, .d (.int lv), .d w, .d h, .d tn, .o acc, .d R0, .d M0], by simp [wipeE, setD, canSet], ?_⟩
    by_cases c : row.length + m.length < u
    · have c1 : (row.length : Int) + (m.length : Int) < (u : Int) := by omega
      rw [if_pos c]
      generalize hn1 : (row.length : Int) = n1 at *
      generalize hn2 : (m.length : Int) = n2 at *
      exact ⟨[.d (.int (u : Int)), .d f, .d BB, .d (.int lv), .d w, .d h, .d tn, .o acc, .d R0, .d M0], by simp [dCb, l1, l2, c1], by simp [a1, a2, small], by simp [wipeE]⟩
    · have c1 : ¬ (row.length : Int) + (m.length : Int) < (u : Int) := by omega
      rw [if_neg c]
      generalize hn1 : (row.length : Int) = n1 at *
      generalize hn2 : (m.length : Int) = n2 at *
      exact ⟨by simp [dCb, l1, l2, c1], by simp [wipeE]⟩
  generalize (extR u lv below row).map kD = X at *
  generalize PyData.list (below.map kD) = BB at *
  generalize kD row = R0 at *
  simp [m__law_all_L1, sExtL, ownL, hlc, hfew, hx, putL]
theorem all_rows {u : Nat} {lv : Int} {below : List (List Int)} {f w h tn : PyData} (hb : ∀ m ∈ below, m.length ≤ 20) (hl : below.length ≤ 1000) : ∀ (rs : List (List Int)) (acc : List PyData) (x8 : Sl), (∀ m ∈ rs, m.length ≤ 20) → acc.length + (laterR u lv below rs).length ≤ 20000 → (x8 = .no ∨ ∃ x, x8 = .d x) →
    ∃ x8', (x8' = .no ∨ ∃ x, x8' = .d x) ∧ runFor (dName 8) m__law_all_L1 (rs.map kD) [.d (.int (u : Int)), .d f, .d (.list (below.map kD)), .d (.int lv), .d w, .d h, .d tn, .o acc, x8, .no] =
      some (.nx [.d (.int (u : Int)), .d f, .d (.list (below.map kD)), .d (.int lv), .d w, .d h, .d tn, .o (acc ++ (laterR u lv below rs).map kD), x8', .no])
  | [], acc, x8, _, _, f8 => ⟨x8, f8, by
    have : laterR u lv below [] = [] := rfl
    rw [this, List.map_nil, List.append_nil]
    rfl⟩
  | r :: rs, acc, x8, hr, ha, f8 => by
    have e : laterR u lv below (r :: rs) = extR u lv below r ++ laterR u lv below rs := List.flatMap_cons
    rw [e, List.length_append] at ha
    obtain ⟨x8', f', hh⟩ := all_rows (u := u) (lv := lv) (f := f) (w := w) (h := h) (tn := tn) hb hl rs (acc ++ (extR u lv below r).map kD) (.d (kD r)) (fun m hm => hr m (List.mem_cons_of_mem _ hm)) (by rw [List.length_append, List.length_map]; omega) (.inr ⟨_, rfl⟩)
    refine ⟨x8', f', ?_⟩
    have t := all_L1 (u := u) (lv := lv) (row := r) (below := below) (f := f) (w := w) (h := h) (tn := tn) (acc := acc) hb (hr r List.mem_cons_self) hl (by omega)
    rw [e, List.map_append, ← List.append_assoc, ← hh, List.map_cons]
    refine runFor_cons_nx ?_ t
    rcases f8 with rfl | ⟨x, rfl⟩ <;> simp [setD, canSet]
theorem all_L2 {u : Nat} {lv : Int} {below rs hs : List (List Int)} {f tn : PyData} {x7 x8 : Sl} (hb : ∀ m ∈ below, m.length ≤ 20) (hl : below.length ≤ 1000) (hr : ∀ m ∈ rs, m.length ≤ 20) (ha : hs.length + (laterR u lv below rs).length ≤ 20000) (f7 : x7 = .no ∨ ∃ x, x7 = .d x) (f8 : x8 = .no ∨ ∃ x, x8 = .d x) :
    ∃ x8', (x8' = .no ∨ ∃ x, x8' = .d x) ∧ m__law_all_L2 [.d (.int (u : Int)), .d f, .d (.list (below.map kD)), .d (.int lv), .d (.list (rs.map kD)), .d (.list (hs.map kD)), .d tn, x7, x8, .no] =
      some (.nx [.d (.int (u : Int)), .d f, .d (.list (below.map kD)), .d (.int lv), .d (.list ((laterR u lv below rs).map kD)), .d (.list ((hs ++ laterR u lv below rs).map kD)), .d tn, .d (.list ((laterR u lv below rs).map kD)), x8', .no]) := by
  obtain ⟨x8', f', h⟩ := all_rows (u := u) (lv := lv) (f := f) (w := .list (rs.map kD)) (h := .list (hs.map kD)) (tn := tn) hb hl rs [] x8 hr (by show 0 + _ ≤ _; omega) f8
  rw [List.nil_append] at h
  refine ⟨x8', f', ?_⟩
  have ad : addD (.list (hs.map kD)) (.list ((laterR u lv below rs).map kD)) = some (.list ((hs ++ laterR u lv below rs).map kD)) := by
    show (if (hs.map kD).length + ((laterR u lv below rs).map kD).length ≤ 100000 then _ else none) = _
    rw [if_pos (by rw [List.length_map, List.length_map]; omega), ← List.map_append]
  generalize (hs ++ laterR u lv below rs).map kD = X2 at *
  generalize (laterR u lv below rs).map kD = X1 at *
  generalize hs.map kD = X0 at *
  generalize below.map kD = BB at *
  generalize rs.map kD = RR at *
  unfold m__law_all_L2
  generalize m__law_all_L1 = B1 at *
  rcases f7 with rfl | ⟨x7, rfl⟩ <;> simp [ small, setO, setD, canSet, h, sPar, sSets, ad]
end Tk
end

section
set_option Elab.async false
set_option linter.all false
set_option maxRecDepth 100000
set_option maxHeartbeats 1000000
/-! k67: all rows of up to nine heights, 2. -/
namespace Tk
open PySem PySem.Spec PyProof.Rows L2 Evl Tb Fd
abbrev fr (x : Sl) : Prop := x = .no ∨ ∃ y, x = .d y
theorem setFr {e : En} {i : Nat} {x : Sl} {d : PyData} (h : e[i]? = some x) (f : fr x) : setD i d e = some (e.set i (.d d)) := by
  unfold setD canSet
  rw [h]
  rcases f with rfl | ⟨y, rfl⟩ <;> rfl
theorem all_L3 {u : Nat} {lv : Int} {below fs : List (List Int)} {x4 x5 x6 x7 x8 : Sl} (f4 : fr x4) (f5 : fr x5) (f6 : fr x6) (f7 : fr x7) (f8 : fr x8) (hb : ∀ m ∈ below, m.length ≤ 20) (h1 : ∀ m ∈ laterR u lv below below, m.length ≤ 20) (h2 : ∀ m ∈ laterR u lv below (laterR u lv below below), m.length ≤ 20)
    (hl : below.length ≤ 1000) (hn : (levelR u lv below).length ≤ 2000) (hf : fs.length ≤ 5000) : ∃ z4 z5 z6 z7 z8, fr z4 ∧ fr z5 ∧ fr z6 ∧ fr z7 ∧ fr z8 ∧
      m__law_all_L3 [.d (.int (u : Int)), .d (.list (fs.map kD)), .d (.list (below.map kD)), .d (.int lv), x4, x5, x6, x7, x8, .no] =
        some (.nx [.d (.int (u : Int)), .d (.list ((fs ++ levelR u lv below).map kD)), .d (.list ((levelR u lv below).map kD)), .d (.int lv), z4, z5, z6, z7, z8, .no]) := by
  have hn2 := hn
  unfold levelR at hn2
  rw [List.length_append, List.length_append] at hn2
  obtain ⟨y1, g1, t1⟩ := all_L2 (u := u) (lv := lv) (f := .list (fs.map kD)) (tn := .int 0) (hs := []) (x7 := x7) (x8 := x8) hb hl hb (by show 0 + _ ≤ _; omega) f7 f8
  obtain ⟨y2, g2, t2⟩ := all_L2 (u := u) (lv := lv) (f := .list (fs.map kD)) (tn := .int 1) (hs := [] ++ laterR u lv below below) (x7 := .d (.list ((laterR u lv below below).map kD))) (x8 := y1) hb hl h1 (by rw [List.nil_append]; omega) (.inr ⟨_, rfl⟩) g1
  obtain ⟨y3, g3, t3⟩ := all_L2 (u := u) (lv := lv) (f := .list (fs.map kD)) (tn := .int 2) (hs := [] ++ laterR u lv below below ++ laterR u lv below (laterR u lv below below)) (x7 := .d (.list ((laterR u lv below (laterR u lv below below)).map kD))) (x8 := y2) hb hl h2 (by rw [List.nil_append, List.length_append]; omega) (.inr ⟨_, rfl⟩) g2
  have e3 : [] ++ laterR u lv below below ++ laterR u lv below (laterR u lv below below) ++ laterR u lv below (laterR u lv below (laterR u lv below below)) = levelR u lv below := by
    rw [List.nil_append]
    rfl
  rw [e3] at t3
  have ad : addD (.list (fs.map kD)) (.list ((levelR u lv below).map kD)) = some (.list ((fs ++ levelR u lv below).map kD)) := by
    show (if (fs.map kD).length + ((levelR u lv below).map kD).length ≤ 100000 then _ else none) = _
    rw [if_pos (by rw [List.length_map, List.length_map]; omega), ← List.map_append]
  refine ⟨.d (.list ((laterR u lv below (laterR u lv below (laterR u lv below below))).map kD)), .d (.list ((levelR u lv below).map kD)), .d (.int 2), .d (.list ((laterR u lv below (laterR u lv below (laterR u lv below below))).map kD)), y3, .inr ⟨_, rfl⟩, .inr ⟨_, rfl⟩, .inr ⟨_, rfl⟩, .inr ⟨_, rfl⟩, g3, ?_⟩
  have rg : rgD 0 3 = [.int 0, .int 1, .int 2] := rfl
  have b3 : big 3 = true := rfl
  have e0 : ([] : List (List Int)).map kD = [] := rfl
  rw [e0] at t1
  generalize (levelR u lv below).map kD = X4 at *
  generalize (fs ++ levelR u lv below).map kD = X5 at *
  generalize ([] ++ laterR u lv below below ++ laterR u lv below (laterR u lv below below)).map kD = Y2 at *
  generalize ([] ++ laterR u lv below below).map kD = Y1 at *
  generalize (laterR u lv below (laterR u lv below (laterR u lv below below))).map kD = X3 at *
  generalize (laterR u lv below (laterR u lv below below)).map kD = X2 at *
  generalize (laterR u lv below below).map kD = X1 at *
  generalize below.map kD = BB at *
  generalize fs.map kD = FS at *
  unfold m__law_all_L3
  generalize m__law_all_L2 = B2 at *
  have r : runFor (dName 6) B2 (rgD 0 3) [.d (.int (u : Int)), .d (.list FS), .d (.list BB), .d (.int lv), .d (.list BB), .d (.list []), x6, x7, x8, .no] = some (.nx [.d (.int (u : Int)), .d (.list FS), .d (.list BB), .d (.int lv), .d (.list X3), .d (.list X4), .d (.int 2), .d (.list X3), y3, .no]) := by
    have q1 : dName 6 (.int 0) [.d (.int (u : Int)), .d (.list FS), .d (.list BB), .d (.int lv), .d (.list BB), .d (.list []), x6, x7, x8, .no] = some [.d (.int (u : Int)), .d (.list FS), .d (.list BB), .d (.int lv), .d (.list BB), .d (.list []), .d (.int 0), x7, x8, .no] := by
      rcases f6 with rfl | ⟨z, rfl⟩ <;> rfl
    rw [rg, runFor_cons_nx q1 t1]
    refine (runFor_cons_nx (g := dName 6) rfl t2).trans ?_
    refine (runFor_cons_nx (g := dName 6) rfl t3).trans ?_
    rfl
  rcases f4 with rfl | ⟨z4, rfl⟩ <;> rcases f5 with rfl | ⟨z5, rfl⟩ <;> simp [sPar, sSets, small, setD, canSet, b3, r, ad]
theorem later_mem {u : Nat} {lv : Int} {below w : List (List Int)} {r : List Int} (h : r ∈ laterR u lv below w) : ∃ x ∈ w, ∃ m ∈ below, r = x ++ [lv] ++ m ∧ x.length + m.length < u := by
  obtain ⟨x, hx, hr⟩ := List.mem_flatMap.mp h
  unfold extR at hr
  obtain ⟨m, hm, rfl⟩ := List.mem_map.mp hr
  obtain ⟨h1, h2⟩ := List.mem_filter.mp hm
  exact ⟨x, hx, m, h1, rfl, of_decide_eq_true h2⟩
def SW (L i : Nat) (row : List Int) : Prop := ∃ P : List (List Int), P.length = i + 1 ∧ (∀ p ∈ P, Sh L p) ∧ row = weave P (List.replicate i ((L : Int) + 1))
theorem sw_s {L i : Nat} {row w : List Int} (h : SW L i row) (hw : Sh L w) : SW L (i + 1) (row ++ [(L : Int) + 1] ++ w) := by
  obtain ⟨P, h1, h2, rfl⟩ := h
  refine ⟨P ++ [w], by rw [List.length_append, h1]; rfl, fun p hp => ?_, ?_⟩
  · rcases List.mem_append.mp hp with hp | hp
    · exact h2 p hp
    · rw [List.mem_singleton.mp hp]
      exact hw
  · rw [List.replicate_succ', weave_snoc P _ _ w (by rw [List.length_replicate, h1])]
    simp
theorem later_sw {u L i : Nat} {below w : List (List Int)} (hb : ∀ m ∈ below, Sh L m) (hw : ∀ m ∈ w, SW L i m) : ∀ r ∈ laterR u ((L : Int) + 1) below w, SW L (i + 1) r ∧ r.length ≤ u := fun r hr => by
  obtain ⟨x, hx, m, hm, rfl, hl⟩ := later_mem hr
  refine ⟨sw_s (hw x hx) (hb m hm), ?_⟩
  rw [List.length_append, List.length_append]
  show _ + 1 + _ ≤ _
  omega
theorem level_sh {u L : Nat} {below : List (List Int)} (hb : ∀ m ∈ below, Sh L m) : ∀ r ∈ levelR u ((L : Int) + 1) below, Sh (L + 1) r ∧ r.length ≤ u := fun r hr => by
  have b0 : ∀ m ∈ below, SW L 0 m := fun m hm => ⟨[m], rfl, fun p hp => by rw [List.mem_singleton.mp hp]; exact hb m hm, rfl⟩
  have l1 := later_sw (u := u) hb b0
  have l2 := later_sw (u := u) hb fun m hm => (l1 m hm).1
  have l3 := later_sw (u := u) hb fun m hm => (l2 m hm).1
  unfold levelR at hr
  rcases List.mem_append.mp hr with hr | hr
  · rcases List.mem_append.mp hr with hr | hr
    · obtain ⟨⟨P, a, b, c⟩, d⟩ := l1 r hr
      exact ⟨⟨P, 1, a, by decide, by decide, b, c⟩, d⟩
    · obtain ⟨⟨P, a, b, c⟩, d⟩ := l2 r hr
      exact ⟨⟨P, 2, a, by decide, by decide, b, c⟩, d⟩
  · obtain ⟨⟨P, a, b, c⟩, d⟩ := l3 r hr
    exact ⟨⟨P, 3, a, by decide, by decide, b, c⟩, d⟩
theorem row1_sh : ∀ r ∈ row1, Sh 1 r ∧ r.length ≤ 9 := level_sh (L := 0) fun m hm => by
  rw [List.mem_singleton.mp hm]
  rfl
theorem row2_sh : ∀ r ∈ row2, Sh 2 r ∧ r.length ≤ 9 := level_sh (L := 1) fun m hm => (row1_sh m hm).1
theorem row3_sh : ∀ r ∈ row3, Sh 3 r ∧ r.length ≤ 9 := level_sh (L := 2) fun m hm => (row2_sh m hm).1
theorem later_len {u : Nat} {lv : Int} {below w : List (List Int)} : ∀ r ∈ laterR u lv below w, r.length ≤ u := fun r hr => by
  obtain ⟨x, hx, m, hm, rfl, hl⟩ := later_mem hr
  rw [List.length_append, List.length_append]
  show _ + 1 + _ ≤ _
  omega
theorem sizes : row1.length = 3 ∧ row2.length = 47 ∧ row3.length = 17 := by decide +kernel
theorem e_all : F__law_all [.int 9] = some (.list ((row1 ++ row2 ++ row3).map kD)) := by
  obtain ⟨s1, s2, s3⟩ := sizes
  have le : ∀ {lv : Int} {below w : List (List Int)}, ∀ r ∈ laterR 9 lv below w, r.length ≤ 20 := fun r hr => Nat.le_trans (later_len r hr) (by decide)
  obtain ⟨a4, a5, a6, a7, a8, f4, f5, f6, f7, f8, t1⟩ := all_L3 (u := 9) (lv := 1) (below := [[]]) (fs := []) (x4 := .no) (x5 := .no) (x6 := .no) (x7 := .no) (x8 := .no) (.inl rfl) (.inl rfl) (.inl rfl) (.inl rfl) (.inl rfl) (fun m hm => by rw [List.mem_singleton.mp hm]; decide) le le (by decide) (by show row1.length ≤ _; omega) (by decide)
  obtain ⟨b4, b5, b6, b7, b8, g4, g5, g6, g7, g8, t2⟩ := all_L3 (u := 9) (lv := 2) (below := row1) (fs := row1) f4 f5 f6 f7 f8 (fun m hm => Nat.le_trans (row1_sh m hm).2 (by decide)) le le (by omega) (by show row2.length ≤ _; omega) (by omega)
  obtain ⟨c4, c5, c6, c7, c8, h4, h5, h6, h7, h8, t3⟩ := all_L3 (u := 9) (lv := 3) (below := row2) (fs := row1 ++ row2) g4 g5 g6 g7 g8 (fun m hm => Nat.le_trans (row2_sh m hm).2 (by decide)) le le (by omega) (by show row3.length ≤ _; omega) (by rw [List.length_append]; omega)
  have z1 : ([] ++ levelR 9 1 [[]]).map kD = row1.map kD := rfl
  have z2 : (levelR 9 1 [[]]).map kD = row1.map kD := rfl
  have z3 : levelR 9 2 row1 = row2 := rfl
  have z4 : levelR 9 3 row2 = row3 := rfl
  have z5 : ([[]] : List (List Int)).map kD = [.tuple []] := rfl
  have z6 : ([] : List (List Int)).map kD = [] := rfl
  rw [z1, z2, z5, z6] at t1
  rw [z3] at t2
  rw [z4] at t3
  have n9 : (((9 : Nat) : Int)) = 9 := rfl
  rw [n9] at t1 t2 t3
  generalize row1.map kD = R1 at *
  generalize row2.map kD = R2 at *
  generalize row3.map kD = R3 at *
  generalize (row1 ++ row2).map kD = R12 at *
  generalize (row1 ++ row2 ++ row3).map kD = R123 at *
  have r : runFor (dName 3) m__law_all_L3 [.int 1, .int 2, .int 3] [.d (.int 9), .d (.list []), .d (.list [.tuple []]), .no, .no, .no, .no, .no, .no, .no] = some (.nx [.d (.int 9), .d (.list R123), .d (.list R3), .d (.int 3), c4, c5, c6, c7, c8, .no]) := by
    refine (runFor_cons_nx (g := dName 3) rfl t1).trans ?_
    refine (runFor_cons_nx (g := dName 3) rfl t2).trans ?_
    refine (runFor_cons_nx (g := dName 3) rfl t3).trans ?_
    rfl
  unfold F__law_all fnD m__law_all
  generalize m__law_all_L3 = B3 at *
  simp [init, small, sPar, sSets, setD, canSet, r, retD]
end Tk
end

section
set_option Elab.async false
set_option linter.all false
set_option maxRecDepth 100000
set_option maxHeartbeats 1000000
/-! k67: the law. -/
namespace Tk
open PySem PySem.Spec PyProof.Rows L2 Evl Tb Fd
def rowsF (f : Int → Int) : Int → List Int → Tw
  | _, [] => []
  | k, h :: hs => (f k, h) :: rowsF f (k + 1) hs
theorem rowsF_hts (f : Int → Int) : ∀ (hs : List Int) (k : Int), (rowsF f k hs).map (·.2) = hs
  | [], _ => rfl
  | h :: hs, k => by
    rw [rowsF, List.map_cons, rowsF_hts f hs (k + 1)]
theorem rowsF_len (f : Int → Int) (hs : List Int) (k : Int) : (rowsF f k hs).length = hs.length := by
  have := congrArg List.length (rowsF_hts f hs k)
  rw [List.length_map] at this
  exact this
theorem rowsF_mem (f : Int → Int) : ∀ (hs : List Int) (k : Int) (x : Int), x ∈ (rowsF f k hs).map (·.1) → ∃ j : Nat, j < hs.length ∧ x = f (k + j)
  | h :: hs, k, x, hx => by
    rw [rowsF, List.map_cons] at hx
    rcases List.mem_cons.mp hx with rfl | hx
    · exact ⟨0, by rw [List.length_cons]; omega, by rw [show k + ((0 : Nat) : Int) = k by omega]⟩
    · obtain ⟨j, h1, h2⟩ := rowsF_mem f hs (k + 1) x hx
      exact ⟨j + 1, by rw [List.length_cons]; omega, by rw [h2, show k + 1 + (j : Int) = k + ((j + 1 : Nat) : Int) by omega]⟩
theorem rowsF_get (f : Int → Int) : ∀ (hs : List Int) (k : Int) (j : Nat), j < hs.length → f (k + j) ∈ (rowsF f k hs).map (·.1)
  | h :: hs, k, 0, _ => by
    rw [rowsF, List.map_cons, show k + ((0 : Nat) : Int) = k by omega]
    exact List.mem_cons_self
  | h :: hs, k, j + 1, hj => by
    rw [rowsF, List.map_cons, show k + ((j + 1 : Nat) : Int) = k + 1 + j by omega]
    exact List.mem_cons_of_mem _ (rowsF_get f hs (k + 1) j (by rw [List.length_cons] at hj; omega))
theorem rowsF_srt {f : Int → Int} (hf : ∀ a b, a < b → f a < f b) : ∀ (hs : List Int) (k : Int), srt ((rowsF f k hs).map (·.1))
  | [], _ => .nil
  | h :: hs, k => by
    rw [rowsF, List.map_cons]
    refine List.pairwise_cons.mpr ⟨fun x hx => ?_, rowsF_srt hf hs (k + 1)⟩
    obtain ⟨j, _, rfl⟩ := rowsF_mem f hs (k + 1) x hx
    exact hf _ _ (by omega)
def roC (f : Int → Int) (d : PyData) : Option PyData := match itemsOf d with
  | some [.int k, h] => some (.tuple [.int (f k), h])
  | _ => none
theorem ro_filter (f : Int → Int) : ∀ (hs : List Int) (k : Int), (enD k (hs.map .int)).filterMap (roC f) = (rowsF f k hs).map (Tb.prD false)
  | [], _ => rfl
  | h :: hs, k => by
    rw [List.map_cons, enD, List.filterMap_cons, rowsF, List.map_cons]
    have e : roC f (.tuple [.int k, .int h]) = some (Tb.prD false (f k, h)) := rfl
    rw [e]
    simp only [ro_filter f hs (k + 1)]
theorem right_all {L : Nat} {F : Tw} (h1 : 1 ≤ L) (h3 : L ≤ 3) (sh : Sh L (F.map (·.2))) (hs : srt (F.map (·.1))) (hl : F.length ≤ 1000) {k : Int} (hk : k ∈ F.map (·.1)) : F__law_is_right [twD true false F, .int k] = some (.bool true) := by
  obtain ⟨t, ho, rfl⟩ := tree_of L F sh
  match L, h1, t, ho with
  | n + 1, _, t, ho => exact e_right (by omega) ho (by rw [← keys_flat]; exact hs) (by rw [← keys_flat]; exact hk) hl
theorem sh_pos : ∀ {L : Nat} {hs : List Int}, 1 ≤ L → Sh L hs → 0 < hs.length
  | n + 1, _, _, ⟨P, k, h1, h2, h3, h4, rfl⟩ => by
    match P, k, h1, h2 with
    | p :: q :: P, k + 1, _, _ =>
      rw [List.replicate_succ, weave, List.length_append, List.length_cons]
      omega
theorem e_first : F_out_gapped [.tuple [.tuple [.int 5, .int 1]], .int 5] = some (.tuple []) := by
  have o : okN 1 (mkT [5] [(), ()] : Tr 1) := ⟨rfl, by decide, by decide, fun _ _ => trivial⟩
  obtain ⟨h, _, _, _⟩ := out_tree (n := 0) (t := mkT [5] [(), ()]) (key := 5) o (List.pairwise_singleton _ _) (by show (5 : Int) ∈ [5]; exact List.mem_singleton.mpr rfl) (by decide) (by decide)
  exact h false false
abbrev EnL (sd : PyData) (x1 x2 x3 x4 x5 x6 x7 x8 : Sl) : En := [.d sd, x1, x2, x3, x4, x5, x6, x7, x8, .no]
theorem law_L1 {sd : PyData} {F : Tw} {x1 x5 x6 x7 x8 : Sl} (hr : ∀ k ∈ F.map (·.1), F__law_is_right [twD true false F, .int k] = some (.bool true)) : ∀ (G : Tw) (x2 x4 : Sl), (∀ q ∈ G, q ∈ F) → fr x2 → fr x4 → ∃ x2' x4', fr x2' ∧ fr x4' ∧
    runFor (dRow 2 (dGs (dName 4) (dGs (dName 2) dNil))) m_law_L1 (G.map (Tb.prD false)) (EnL sd x1 x2 (.d (twD true false F)) x4 x5 x6 x7 x8) = some (.nx (EnL sd x1 x2' (.d (twD true false F)) x4' x5 x6 x7 x8))
  | [], x2, x4, _, f2, f4 => ⟨x2, x4, f2, f4, rfl⟩
  | q :: G, x2, x4, hG, f2, f4 => by
    obtain ⟨x2', x4', g2, g4, h⟩ := law_L1 hr G (.d (.int q.2)) (.d (.int q.1)) (fun z hz => hG z (List.mem_cons_of_mem _ hz)) (.inr ⟨_, rfl⟩) (.inr ⟨_, rfl⟩)
    have r := hr q.1 (List.mem_map.mpr ⟨q, hG q List.mem_cons_self, rfl⟩)
    have ip := items_pr false q
    refine ⟨x2', x4', g2, g4, ?_⟩
    rw [← h, List.map_cons]
    generalize twD true false F = T at *
    generalize Tb.prD false q = Q at *
    refine runFor_cons_nx (e1 := EnL sd x1 (.d (.int q.2)) (.d T) (.d (.int q.1)) x5 x6 x7 x8) ?_ ?_
    · rcases f2 with rfl | ⟨y2, rfl⟩ <;> rcases f4 with rfl | ⟨y4, rfl⟩ <;> simp [EnL, ip, setD, canSet]
    · simp [EnL, m_law_L1, r]
theorem lc_rowsA {sd : PyData} {hs : List Int} {x4 x5 x6 x7 x8 : Sl} {HS : PyData} (hH : itemsOf HS = some (hs.map .int)) (hl : hs.length ≤ 1000) {x2 x3 : Sl} (f2 : fr x2) : dLc (dEnum (dCons (dVar 1) (dK []))) (dRow 2 (dGs (dName 9) (dGs (dName 2) dNil))) (dK true) (dTup (dCons (dOp subD (dOp mulD (dK (.int 3)) (dVar 9)) (dK (.int 8))) (dCons (dVar 2) (dK [])))) [9, 2] (EnL sd (.d HS) x2 x3 x4 x5 x6 x7 x8) =
    some ((rowsF (fun p => 3 * p - 8) 0 hs).map (Tb.prD false), EnL sd (.d HS) x2 x3 x4 x5 x6 x7 x8) := by
  rw [← ro_filter]
  have hfr : vsFree (EnL sd (.d HS) x2 x3 x4 x5 x6 x7 x8) [9, 2] = true := by rcases f2 with rfl | ⟨y, rfl⟩ <;> rfl
  have hw : wipeE (EnL sd (.d HS) x2 x3 x4 x5 x6 x7 x8) [9, 2] = EnL sd (.d HS) .no x3 x4 x5 x6 x7 x8 := rfl
  refine dLc_map _ (by simp [EnL, hH]) hfr (by rw [enD_length, List.length_map]; omega) (by rw [hw]; rfl) fun d hd => ?_
  obtain ⟨i, hi⟩ := List.getElem?_of_mem hd
  rw [enD_get, List.getElem?_map] at hi
  cases hx : hs[i]? with
  | none =>
    rw [hx] at hi
    cases hi
  | some h =>
    rw [hx] at hi
    cases hi
    have e : roC (fun p => 3 * p - 8) (.tuple [.int (0 + (i : Int)), .int h]) = some (.tuple [.int (3 * (0 + (i : Int)) - 8), .int h]) := rfl
    have hm : mulD (.int 3) (.int (0 + (i : Int))) = some (.int (3 * (0 + (i : Int)))) := mulD_left (by decide) (by decide)
    rw [e, hw]
    generalize 0 + (i : Int) = k at *
    refine ⟨[.d sd, .d HS, .d (.int h), x3, x4, x5, x6, x7, x8, .d (.int k)], [.d sd, .d HS, .d (.int h), x3, x4, x5, x6, x7, x8, .d (.int k)], by simp [EnL, setD, canSet], [.d sd, .d HS, .d (.int h), x3, x4, x5, x6, x7, x8, .d (.int k)], by simp, by simp [hm, small], rfl⟩
theorem lc_rowsB {sd : PyData} {hs : List Int} {s : Int} {x4 x5 x6 x8 : Sl} {HS : PyData} (hH : itemsOf HS = some (hs.map .int)) (hl : hs.length ≤ 1000) {x2 x3 : Sl} (f2 : fr x2) : dLc (dEnum (dCons (dVar 1) (dK []))) (dRow 2 (dGs (dName 9) (dGs (dName 2) dNil))) (dK true) (dTup (dCons (dOp addD (dVar 7) (dOp mulD (dK (.int 2)) (dVar 9))) (dCons (dVar 2) (dK [])))) [9, 2] (EnL sd (.d HS) x2 x3 x4 x5 x6 (.d (.int s)) x8) =
    some ((rowsF (fun p => s + 2 * p) 0 hs).map (Tb.prD false), EnL sd (.d HS) x2 x3 x4 x5 x6 (.d (.int s)) x8) := by
  rw [← ro_filter]
  have hfr : vsFree (EnL sd (.d HS) x2 x3 x4 x5 x6 (.d (.int s)) x8) [9, 2] = true := by rcases f2 with rfl | ⟨y, rfl⟩ <;> rfl
  have hw : wipeE (EnL sd (.d HS) x2 x3 x4 x5 x6 (.d (.int s)) x8) [9, 2] = EnL sd (.d HS) .no x3 x4 x5 x6 (.d (.int s)) x8 := rfl
  refine dLc_map _ (by simp [EnL, hH]) hfr (by rw [enD_length, List.length_map]; omega) (by rw [hw]; rfl) fun d hd => ?_
  obtain ⟨i, hi⟩ := List.getElem?_of_mem hd
  rw [enD_get, List.getElem?_map] at hi
  cases hx : hs[i]? with
  | none =>
    rw [hx] at hi
    cases hi
  | some h =>
    rw [hx] at hi
    cases hi
    have e : roC (fun p => s + 2 * p) (.tuple [.int (0 + (i : Int)), .int h]) = some (.tuple [.int (s + 2 * (0 + (i : Int))), .int h]) := rfl
    have hm : mulD (.int 2) (.int (0 + (i : Int))) = some (.int (2 * (0 + (i : Int)))) := mulD_left (by decide) (by decide)
    rw [e, hw]
    generalize 0 + (i : Int) = k at *
    refine ⟨[.d sd, .d HS, .d (.int h), x3, x4, x5, x6, .d (.int s), x8, .d (.int k)], [.d sd, .d HS, .d (.int h), x3, x4, x5, x6, .d (.int s), x8, .d (.int k)], by simp [EnL, setD, canSet], [.d sd, .d HS, .d (.int h), x3, x4, x5, x6, .d (.int s), x8, .d (.int k)], by simp, by simp [hm, small], rfl⟩
theorem law_L2 {sd : PyData} {x5 x6 x7 x8 : Sl} : ∀ (R : List (List Int)) (x1 x2 x3 x4 : Sl), (∀ r ∈ R, r.length ≤ 9 ∧ ∃ L, 1 ≤ L ∧ L ≤ 3 ∧ Sh L r) → fr x1 → fr x2 → fr x3 → fr x4 → ∃ x1' x2' x3' x4', fr x1' ∧ fr x2' ∧ fr x3' ∧ fr x4' ∧
    runFor (dName 1) m_law_L2 (R.map kD) (EnL sd x1 x2 x3 x4 x5 x6 x7 x8) = some (.nx (EnL sd x1' x2' x3' x4' x5 x6 x7 x8))
  | [], x1, x2, x3, x4, _, f1, f2, f3, f4 => ⟨x1, x2, x3, x4, f1, f2, f3, f4, rfl⟩
  | r :: R, x1, x2, x3, x4, hR, f1, f2, f3, f4 => by
    obtain ⟨hl, L, l1, l3, sh⟩ := hR r List.mem_cons_self
    have lc := lc_rowsA (sd := sd) (hs := r) (x4 := x4) (x5 := x5) (x6 := x6) (x7 := x7) (x8 := x8) (HS := kD r) (x3 := x3) rfl (by omega) f2
    have hr : ∀ k ∈ (rowsF (fun p => 3 * p - 8) 0 r).map (·.1), F__law_is_right [twD true false (rowsF (fun p => 3 * p - 8) 0 r), .int k] = some (.bool true) := fun k hk =>
      right_all l1 l3 (by rw [rowsF_hts]; exact sh) (rowsF_srt (fun a b h => by omega) _ _) (by rw [rowsF_len]; omega) hk
    obtain ⟨z2, z4, g2, g4, h1⟩ := law_L1 (sd := sd) (x1 := .d (kD r)) (x5 := x5) (x6 := x6) (x7 := x7) (x8 := x8) hr (rowsF (fun p => 3 * p - 8) 0 r) x2 x4 (fun q hq => hq) f2 f4
    obtain ⟨y1, y2, y3, y4, e1, e2, e3, e4, h2⟩ := law_L2 (sd := sd) (x5 := x5) (x6 := x6) (x7 := x7) (x8 := x8) R (.d (kD r)) z2 (.d (twD true false (rowsF (fun p => 3 * p - 8) 0 r))) z4 (fun q hq => hR q (List.mem_cons_of_mem _ hq)) (.inr ⟨_, rfl⟩) g2 (.inr ⟨_, rfl⟩) g4
    refine ⟨y1, y2, y3, y4, e1, e2, e3, e4, ?_⟩
    have it := items_tw true false (rowsF (fun p => 3 * p - 8) 0 r)
    have ef : PyData.list ((rowsF (fun p => 3 * p - 8) 0 r).map (Tb.prD false)) = twD true false (rowsF (fun p => 3 * p - 8) 0 r) := rfl
    rw [← h2, List.map_cons]
    generalize (rowsF (fun p => 3 * p - 8) 0 r).map (Tb.prD false) = FR at *
    generalize twD true false (rowsF (fun p => 3 * p - 8) 0 r) = T at *
    generalize kD r = KR at *
    unfold EnL at lc h1 ⊢
    refine runFor_cons_nx (e1 := [.d sd, .d KR, x2, x3, x4, x5, x6, x7, x8, .no]) ?_ ?_
    · rcases f1 with rfl | ⟨y, rfl⟩ <;> simp [setD, canSet]
    · unfold m_law_L2
      generalize m_law_L1 = B1 at *
      rcases f3 with rfl | ⟨y, rfl⟩ <;> simp [lc, ef, setD, canSet, it, h1]
end Tk
end

section
set_option Elab.async false
set_option linter.all false
set_option maxRecDepth 100000
set_option maxHeartbeats 1000000
/-! k67: the law, 2. -/
namespace Tk
open PySem PySem.Spec PyProof.Rows L2 Evl Tb Fd
def fr6 (x : Sl) : Prop := x = .no ∨ (∃ y, x = .d y) ∨ ∃ ys, x = .o ys
theorem law_L3 {sd : PyData} {F : Tw} {s : Int} {n : Nat} {x1 x2 x4 x5 : Sl} (hn : F.length = n) (h0 : 0 < n) (hz : n ≤ 1000) (hr : ∀ j : Nat, j < n → F__law_is_right [twD true false F, .int (s + 2 * (j : Int))] = some (.bool true)) : ∀ (m k : Nat) (t : Int × Int × Int) (x8 : Sl), fr x8 → ∃ t' x8', fr x8' ∧
    runFor (dName 8) m_law_L3 (rgD (k : Int) m) (EnL sd x1 x2 (.d (twD true false F)) x4 x5 (.o (srcT t)) (.d (.int s)) x8) = some (.nx (EnL sd x1 x2 (.d (twD true false F)) x4 x5 (.o (srcT t')) (.d (.int s)) x8'))
  | 0, k, t, x8, f8 => ⟨t, x8, f8, rfl⟩
  | m + 1, k, t, x8, f8 => by
    obtain ⟨r, t1, e1, r0, r1⟩ := e_nextT t (m := (n : Int)) (by omega) (by omega)
    obtain ⟨t', x8', f', h⟩ := law_L3 hn h0 hz hr m (k + 1) t1 (.d (.int (k : Int))) (.inr ⟨_, rfl⟩)
    refine ⟨t', x8', f', ?_⟩
    have hl := len_tw true false F
    rw [hn] at hl
    obtain ⟨j, rfl⟩ : ∃ j : Nat, r = (j : Int) := ⟨r.toNat, by omega⟩
    have rt := hr j (by omega)
    have hm : mulD (.int 2) (.int (j : Int)) = some (.int (2 * (j : Int))) := mulD_left (by decide) (by decide)
    rw [rg_succ, show (k : Int) + 1 = ((k + 1 : Nat) : Int) from rfl, ← h]
    generalize twD true false F = T at *
    generalize srcT t = S0 at *
    generalize srcT t1 = S1 at *
    unfold EnL
    refine runFor_cons_nx (e1 := [.d sd, x1, x2, .d T, x4, x5, .o S0, .d (.int s), .d (.int (k : Int)), .no]) ?_ ?_
    · rcases f8 with rfl | ⟨y, rfl⟩ <;> simp [setD, canSet]
    · simp [m_law_L3, dCb, hl, dCallM, ownB, e1, hm, rt]
theorem law_L4 {sd : PyData} {c : Int} {x1 x2 x3 x4 x6 x7 x8 : Sl} (f1 : fr x1) (f2 : fr x2) (f3 : fr x3) (f6 : fr6 x6) (f7 : fr x7) (f8 : fr x8) : ∃ x1' x3' x6' x7' x8', fr x1' ∧ fr x3' ∧ fr6 x6' ∧ fr x7' ∧ fr x8' ∧
    m_law_L4 (EnL sd x1 x2 x3 x4 (.d (.int c)) x6 x7 x8) = some (.nx (EnL sd x1' x2 x3' x4 (.d (.int c)) x6' x7' x8')) := by
  obtain ⟨a, b, z, hs⟩ := e_source c
  have hs' : F__law_source [.int c] = some (srcT (a, b, z)) := hs
  obtain ⟨r, t1, n1, r0, r1⟩ := e_nextT (a, b, z) (m := 3) (by decide) (by decide)
  obtain ⟨L, hL, l1, l3⟩ : ∃ L : Nat, (1 : Int) + r = (L : Int) ∧ 1 ≤ L ∧ L ≤ 3 := ⟨(1 + r).toNat, by omega, by omega, by omega⟩
  obtain ⟨w, t2, hw, sh, wl⟩ := e_woven L (3 - L) l3 t1
  rw [show 3 - L + L + 1 = 4 by omega] at hw
  obtain ⟨q, t3, n2, _, _⟩ := e_nextT t2 (m := (10 : Int) ^ (9 : Int).toNat) (by decide) (by decide)
  have p4 : 4 ^ L ≤ 64 := Nat.pow_le_pow_right (n := 4) (by decide) l3
  have hwl : w.length ≤ 63 := by omega
  have p9 : powD (.int 10) (.int 9) = some (.int ((10 : Int) ^ (9 : Int).toNat)) := powD_ok ⟨by decide, by decide, by decide⟩
  have p8 : powD (.int 10) (.int 8) = some (.int ((10 : Int) ^ (8 : Int).toNat)) := powD_ok ⟨by decide, by decide, by decide⟩
  have key : ∀ s : Int, ∃ t4 y8, fr y8 ∧ runFor (dName 8) m_law_L3 (rgD 0 8) (EnL sd (.d (.list (w.map .int))) x2 (.d (twD true false (rowsF (fun p => s + 2 * p) 0 w))) x4 (.d (.int c)) (.o (srcT t3)) (.d (.int s)) x8) = some (.nx (EnL sd (.d (.list (w.map .int))) x2 (.d (twD true false (rowsF (fun p => s + 2 * p) 0 w))) x4 (.d (.int c)) (.o (srcT t4)) (.d (.int s)) y8)) := fun s => by
    refine law_L3 (n := w.length) (rowsF_len _ _ _) (sh_pos l1 sh) (by omega) (fun j hj => ?_) 8 0 t3 x8 f8
    refine right_all l1 l3 (by rw [rowsF_hts]; exact sh) (rowsF_srt (fun a b h => by omega) _ _) (by rw [rowsF_len]; omega) ?_
    have := rowsF_get (fun p => s + 2 * p) w 0 j hj
    rw [show (0 : Int) + (j : Int) = j by omega] at this
    exact this
  obtain ⟨t4, y8, g8, lp⟩ := key (q - (10 : Int) ^ (8 : Int).toNat)
  have lc := lc_rowsB (sd := sd) (hs := w) (s := q - (10 : Int) ^ (8 : Int).toNat) (x4 := x4) (x5 := .d (.int c)) (x6 := .o (srcT t3)) (x8 := x8) (HS := .list (w.map .int)) (x3 := x3) rfl (by omega) f2
  refine ⟨.d (.list (w.map .int)), .d (twD true false (rowsF (fun p => (q - (10 : Int) ^ (8 : Int).toNat) + 2 * p) 0 w)), .o (srcT t4), .d (.int (q - (10 : Int) ^ (8 : Int).toNat)), y8, .inr ⟨_, rfl⟩, .inr ⟨_, rfl⟩, .inr (.inr ⟨_, rfl⟩), .inr ⟨_, rfl⟩, g8, ?_⟩
  have ef : PyData.list ((rowsF (fun p => (q - (10 : Int) ^ (8 : Int).toNat) + 2 * p) 0 w).map (Tb.prD false)) = twD true false (rowsF (fun p => (q - (10 : Int) ^ (8 : Int).toNat) + 2 * p) 0 w) := rfl
  have b8 : big 8 = true := rfl
  have hF : F__law_woven = FR__law_woven 4 := rfl
  generalize (rowsF (fun p => (q - (10 : Int) ^ (8 : Int).toNat) + 2 * p) 0 w).map (Tb.prD false) = FR at *
  generalize twD true false (rowsF (fun p => (q - (10 : Int) ^ (8 : Int).toNat) + 2 * p) 0 w) = T at *
  generalize w.map PyData.int = W0 at *
  generalize (10 : Int) ^ (9 : Int).toNat = N9 at *
  generalize (10 : Int) ^ (8 : Int).toNat = N8 at *
  generalize srcT (a, b, z) = S0 at *
  generalize srcT t1 = S1 at *
  generalize srcT t2 = S2 at *
  generalize srcT t3 = S3 at *
  generalize srcT t4 = S4 at *
  rw [← hF] at hw
  unfold EnL at lc lp ⊢
  unfold m_law_L4
  generalize m_law_L3 = B3 at *
  rcases f6 with rfl | ⟨y6, rfl⟩ | ⟨y6, rfl⟩ <;> rcases f1 with rfl | ⟨y1, rfl⟩ <;> rcases f7 with rfl | ⟨y7, rfl⟩ <;> rcases f3 with rfl | ⟨y3, rfl⟩ <;>
    simp [hs', setO, canSet, dCallM, ownB, n1, hL, hw, setD, p9, n2, p8, lc, ef, b8, lp]
theorem law_cells {sd : PyData} : ∀ (cs : List Int) (x1 x2 x3 x4 x5 x6 x7 x8 : Sl), fr x1 → fr x2 → fr x3 → fr x5 → fr6 x6 → fr x7 → fr x8 → ∃ e', runFor (dName 5) m_law_L4 (cs.map .int) (EnL sd x1 x2 x3 x4 x5 x6 x7 x8) = some (.nx e')
  | [], x1, x2, x3, x4, x5, x6, x7, x8, _, _, _, _, _, _, _ => ⟨_, rfl⟩
  | c :: cs, x1, x2, x3, x4, x5, x6, x7, x8, f1, f2, f3, f5, f6, f7, f8 => by
    obtain ⟨y1, y3, y6, y7, y8, g1, g3, g6, g7, g8, h⟩ := law_L4 (sd := sd) (c := c) (x4 := x4) f1 f2 f3 f6 f7 f8
    obtain ⟨e', h2⟩ := law_cells cs y1 x2 y3 x4 (.d (.int c)) y6 y7 y8 g1 f2 g3 (.inr ⟨_, rfl⟩) g6 g7 g8
    refine ⟨e', ?_⟩
    rw [← h2, List.map_cons]
    refine runFor_cons_nx ?_ h
    unfold EnL
    rcases f5 with rfl | ⟨y, rfl⟩ <;> simp [setD, canSet]
theorem law_true (ns : List Int) (hns : ns.length ≤ 63) : F_law [.list (ns.map .int)] = some (.bool true) := by
  have rows_ok : ∀ r ∈ row1 ++ row2 ++ row3, r.length ≤ 9 ∧ ∃ L, 1 ≤ L ∧ L ≤ 3 ∧ Sh L r := fun r hr => by
    rcases List.mem_append.mp hr with hr | hr
    · rcases List.mem_append.mp hr with hr | hr
      · exact ⟨(row1_sh r hr).2, 1, by decide, by decide, (row1_sh r hr).1⟩
      · exact ⟨(row2_sh r hr).2, 2, by decide, by decide, (row2_sh r hr).1⟩
    · exact ⟨(row3_sh r hr).2, 3, by decide, by decide, (row3_sh r hr).1⟩
  obtain ⟨y1, y2, y3, y4, g1, g2, g3, g4, h2⟩ := law_L2 (sd := .list (ns.map .int)) (x5 := .no) (x6 := .no) (x7 := .no) (x8 := .no) (row1 ++ row2 ++ row3) .no .no .no .no rows_ok (.inl rfl) (.inl rfl) (.inl rfl) (.inl rfl)
  obtain ⟨e', h3⟩ := law_cells (sd := .list (ns.map .int)) ((ns ++ [0]).take 4) y1 y2 y3 y4 .no .no .no .no g1 g2 g3 (.inl rfl) (.inl rfl) (.inl rfl) (.inl rfl)
  have ha : addD (.list (ns.map .int)) (.list [.int 0]) = some (.list ((ns ++ [0]).map .int)) := addD_ints (ys := [0]) (by show _ + 1 ≤ _; omega)
  have hs : slD (.list ((ns ++ [0]).map .int)) none (some 4) = some (.list (((ns ++ [0]).take 4).map .int)) := by
    show some (PyData.list (cutL _ none (some ((4 : Nat) : Int)))) = _
    rw [cut_to, ← List.map_take]
  have ne0 : neD (.tuple []) (.tuple []) = some (.bool false) := (eq_nil (m := 1) (xs := []) rfl (by decide)).2
  have e1 := e_first
  have e2 := e_all
  generalize (row1 ++ row2 ++ row3).map kD = RR at *
  generalize ((ns ++ [0]).take 4).map PyData.int = C4 at *
  generalize (ns ++ [0]).map PyData.int = C5 at *
  generalize ns.map PyData.int = NN at *
  unfold EnL at h2 h3
  unfold F_law fnD m_law
  generalize m_law_L2 = B2 at *
  generalize m_law_L4 = B4 at *
  simp [init, small, e1, ne0, e2, h2, ha, dSl, hs, h3, retD]
end Tk
end

section
set_option Elab.async false
set_option linter.all false
set_option maxRecDepth 100000
set_option maxHeartbeats 0
/-! The end: what the top leaves, and the law. -/
namespace Tk
open PySem PySem.Spec PyProof.Rows L2 Evl Tb Fd
def dd_is_whole : He.DefD := ⟨("is_whole", none), "is_whole", "is_whole", defArgs s_is_whole, defBody s_is_whole, defScope s_is_whole, [], []⟩
def dd_is_row : He.DefD := ⟨("is_row", none), "is_row", "is_row", defArgs s_is_row, defBody s_is_row, defScope s_is_row, [], []⟩
def dd_tallest : He.DefD := ⟨("tallest", none), "tallest", "tallest", defArgs s_tallest, defBody s_tallest, defScope s_tallest, [], []⟩
def dd_as_tuples : He.DefD := ⟨("as_tuples", none), "as_tuples", "as_tuples", defArgs s_as_tuples, defBody s_as_tuples, defScope s_as_tuples, [], []⟩
def dd_count_below : He.DefD := ⟨("count_below", none), "count_below", "count_below", defArgs s_count_below, defBody s_count_below, defScope s_count_below, [], []⟩
def dd__gaps : He.DefD := ⟨("_gaps", none), "_gaps", "_gaps", defArgs s__gaps, defBody s__gaps, defScope s__gaps, [], []⟩
def dd__with_heights : He.DefD := ⟨("_with_heights", none), "_with_heights", "_with_heights", defArgs s__with_heights, defBody s__with_heights, defScope s__with_heights, [], []⟩
def dd__gap_between : He.DefD := ⟨("_gap_between", none), "_gap_between", "_gap_between", defArgs s__gap_between, defBody s__gap_between, defScope s__gap_between, [], []⟩
def dd__law_source : He.DefD := ⟨("_law_source", none), "_law_source", "_law_source", defArgs s__law_source, defBody s__law_source, defScope s__law_source, [], []⟩
def dd__law_next : He.DefD := ⟨("_law_next", none), "_law_next", "_law_next", defArgs s__law_next, defBody s__law_next, defScope s__law_next, [], []⟩
def dd__law_all : He.DefD := ⟨("_law_all", none), "_law_all", "_law_all", defArgs s__law_all, defBody s__law_all, defScope s__law_all, [], []⟩
def dd__law_behind : He.DefD := ⟨("_law_behind", none), "_law_behind", "_law_behind", defArgs s__law_behind, defBody s__law_behind, defScope s__law_behind, [], []⟩
def dd__law_ahead : He.DefD := ⟨("_law_ahead", none), "_law_ahead", "_law_ahead", defArgs s__law_ahead, defBody s__law_ahead, defScope s__law_ahead, [], []⟩
def dd_check_number : He.DefD := ⟨("check_number", none), "check_number", "check_number", defArgs s_check_number, defBody s_check_number, defScope s_check_number, [.non], []⟩
def dd_check_key : He.DefD := ⟨("check_key", none), "check_key", "check_key", defArgs s_check_key, defBody s_check_key, defScope s_check_key, [], []⟩
def dd__is_pair : He.DefD := ⟨("_is_pair", none), "_is_pair", "_is_pair", defArgs s__is_pair, defBody s__is_pair, defScope s__is_pair, [], []⟩
def dd_has_key : He.DefD := ⟨("has_key", none), "has_key", "has_key", defArgs s_has_key, defBody s_has_key, defScope s_has_key, [], []⟩
def dd_without_key : He.DefD := ⟨("without_key", none), "without_key", "without_key", defArgs s_without_key, defBody s_without_key, defScope s_without_key, [], []⟩
def dd__is_gapped : He.DefD := ⟨("_is_gapped", none), "_is_gapped", "_is_gapped", defArgs s__is_gapped, defBody s__is_gapped, defScope s__is_gapped, [], []⟩
def dd__lower_behind : He.DefD := ⟨("_lower_behind", none), "_lower_behind", "_lower_behind", defArgs s__lower_behind, defBody s__lower_behind, defScope s__lower_behind, [], []⟩
def dd__lower_ahead : He.DefD := ⟨("_lower_ahead", none), "_lower_ahead", "_lower_ahead", defArgs s__lower_ahead, defBody s__lower_ahead, defScope s__lower_ahead, [], []⟩
def dd_wrong_tower : He.DefD := ⟨("wrong_tower", none), "wrong_tower", "wrong_tower", defArgs s_wrong_tower, defBody s_wrong_tower, defScope s_wrong_tower, [], []⟩
def dd__check_bounds : He.DefD := ⟨("_check_bounds", none), "_check_bounds", "_check_bounds", defArgs s__check_bounds, defBody s__check_bounds, defScope s__check_bounds, [], []⟩
def dd__fill_gap : He.DefD := ⟨("_fill_gap", none), "_fill_gap", "_fill_gap", defArgs s__fill_gap, defBody s__fill_gap, defScope s__fill_gap, [], []⟩
def dd_check_towers : He.DefD := ⟨("check_towers", none), "check_towers", "check_towers", defArgs s_check_towers, defBody s_check_towers, defScope s_check_towers, [], []⟩
def dd_is_gapped : He.DefD := ⟨("is_gapped", none), "is_gapped", "is_gapped", defArgs s_is_gapped, defBody s_is_gapped, defScope s_is_gapped, [], []⟩
def dd__check_gaps : He.DefD := ⟨("_check_gaps", none), "_check_gaps", "_check_gaps", defArgs s__check_gaps, defBody s__check_gaps, defScope s__check_gaps, [], []⟩
def dd__law_node : He.DefD := ⟨("_law_node", none), "_law_node", "_law_node", defArgs s__law_node, defBody s__law_node, defScope s__law_node, [], []⟩
def dd__law_rows : He.DefD := ⟨("_law_rows", none), "_law_rows", "_law_rows", defArgs s__law_rows, defBody s__law_rows, defScope s__law_rows, [], []⟩
def dd__law_last : He.DefD := ⟨("_law_last", none), "_law_last", "_law_last", defArgs s__law_last, defBody s__law_last, defScope s__law_last, [], []⟩
def dd_out_gapped : He.DefD := ⟨("out_gapped", none), "out_gapped", "out_gapped", defArgs s_out_gapped, defBody s_out_gapped, defScope s_out_gapped, [], []⟩
def dd__law_woven : He.DefD := ⟨("_law_woven", none), "_law_woven", "_law_woven", defArgs s__law_woven, defBody s__law_woven, defScope s__law_woven, [], []⟩
def dd__law_taken : He.DefD := ⟨("_law_taken", none), "_law_taken", "_law_taken", defArgs s__law_taken, defBody s__law_taken, defScope s__law_taken, [], []⟩
def dd__law_due : He.DefD := ⟨("_law_due", none), "_law_due", "_law_due", defArgs s__law_due, defBody s__law_due, defScope s__law_due, [], []⟩
def dd__law_is_right : He.DefD := ⟨("_law_is_right", none), "_law_is_right", "_law_is_right", defArgs s__law_is_right, defBody s__law_is_right, defScope s__law_is_right, [], []⟩
def dd_law : He.DefD := ⟨("law", none), "law", "law", defArgs s_law, defBody s_law, defScope s_law, [], []⟩
def defsD : List He.DefD := [dd_is_whole, dd_is_row, dd_tallest, dd_as_tuples, dd_count_below, dd__gaps, dd__with_heights, dd__gap_between, dd__law_source, dd__law_next, dd__law_all, dd__law_behind, dd__law_ahead, dd_check_number, dd_check_key, dd__is_pair, dd_has_key, dd_without_key, dd__is_gapped, dd__lower_behind, dd__lower_ahead, dd_wrong_tower, dd__check_bounds, dd__fill_gap, dd_check_towers, dd_is_gapped, dd__check_gaps, dd__law_node, dd__law_rows, dd__law_last, dd_out_gapped, dd__law_woven, dd__law_taken, dd__law_due, dd__law_is_right, dd_law]
def faD : List He.Fa := [.glo "is_whole", .glo "is_row", .glo "tallest", .glo "as_tuples", .glo "count_below", .glo "_gaps", .glo "_with_heights", .glo "_gap_between", .glo "_law_source", .glo "_law_next", .glo "_law_all", .glo "_law_behind", .glo "_law_ahead", .glo "check_number", .glo "check_key", .glo "_is_pair", .glo "has_key", .glo "without_key", .glo "_is_gapped", .glo "_lower_behind", .glo "_lower_ahead", .glo "wrong_tower", .glo "_check_bounds", .glo "_fill_gap", .glo "check_towers", .glo "is_gapped", .glo "_check_gaps", .glo "_law_node", .glo "_law_rows", .glo "_law_last", .glo "out_gapped", .glo "_law_woven", .glo "_law_taken", .glo "_law_due", .glo "_law_is_right", .glo "law", .free "int", .free "bool", .free "str", .free "list", .free "tuple", .free "dict", .free "set", .free "len", .free "max", .free "min", .free "abs", .free "sum", .free "all", .free "any", .free "repr", .free "sorted", .free "zip", .free "isinstance", .free "enumerate", .free "reversed", .free "range", .int "GREATEST_BOUND" 20, .int "GREATEST_GAP" 3, .int "LEAST_GAP" 1]
abbrev RR : PySem.W.OpenRow := PySem.W.OpenLaw.row PySem.Challenge.rw_tosslanes_k67_whole_keys_taken_out
def tsD : List (Str × List Str) := []
abbrev hkD : PySem.W.Hook := Fd.hookT 4 faD defsD tsD
def obD (s : PySem.W.SharedT) : Fd.AlT := Fd.obsTG 4 faD defsD tsD (HandSHeadRun.getT s)
theorem obD_eq (s : PySem.W.SharedT) : obD s = hkD.obs s.abs := Fd.obsTG_eq (HandSHeadRun.getT_eq s)
def namesD : List PySem.Str := (["LaneError", "NoTowers", "NoKey", "NoNumber", "NoGaps", "is_whole", "is_row", "check_number", "check_key", "check_towers", "wrong_tower", "tallest", "as_tuples", "count_below", "_is_pair", "has_key", "without_key", "LEAST_GAP", "GREATEST_GAP", "GREATEST_BOUND", "is_gapped", "out_gapped", "_check_bounds", "_check_gaps", "_gaps", "_is_gapped", "_with_heights", "_gap_between", "_fill_gap", "_lower_behind"] : List PySem.Str) ++ (["_lower_ahead", "_law_source", "_law_next", "_law_all", "_law_node", "_law_rows", "_law_last", "_law_behind", "_law_ahead", "_law_taken", "_law_due", "_law_is_right", "_law_woven"] : List PySem.Str)
theorem runD (w : World) : HandSHeadRun.RunEq RR (PySem.W.view RR.prog [50]) hkD obD 8000 namesD w := by
  intro os
  kernel_rfl
theorem factsD {P : Program} {w : World} {K : PySem.W.Frag} {h : Heap} {mg : Str → Option Value} {f : Addr} (X : K.In h) (G : h.Ns mainGlobals mg) (hfa : mg ("law" : Str) = some (.ref f)) (c0 : Fd.obsT faD defsD tsD K = (He.valD defsD, true)) :
    ∃ fd : FuncData, (∀ (s : Shared) (v : Value), BindsTo s fd ⟨[v], []⟩ [("_law_script", v)]) ∧ ∀ base : Heap, K.In base → base.Ns mainGlobals mg → FnOk P w K mg base CX0 13 f fd ["_law_script"] (spLaw K) := by
  have c := Fd.saysT_D c0
  obtain ⟨fd0, F0⟩ := c.def_ 0 (d := dd_is_whole) rfl
  have m0 := He.glo_ok X G (c.fact 0 (f := .glo "is_whole") rfl)
  obtain ⟨fd1, F1⟩ := c.def_ 1 (d := dd_is_row) rfl
  have m1 := He.glo_ok X G (c.fact 1 (f := .glo "is_row") rfl)
  obtain ⟨fd2, F2⟩ := c.def_ 2 (d := dd_tallest) rfl
  have m2 := He.glo_ok X G (c.fact 2 (f := .glo "tallest") rfl)
  obtain ⟨fd3, F3⟩ := c.def_ 3 (d := dd_as_tuples) rfl
  have m3 := He.glo_ok X G (c.fact 3 (f := .glo "as_tuples") rfl)
  obtain ⟨fd4, F4⟩ := c.def_ 4 (d := dd_count_below) rfl
  have m4 := He.glo_ok X G (c.fact 4 (f := .glo "count_below") rfl)
  obtain ⟨fd5, F5⟩ := c.def_ 5 (d := dd__gaps) rfl
  have m5 := He.glo_ok X G (c.fact 5 (f := .glo "_gaps") rfl)
  obtain ⟨fd6, F6⟩ := c.def_ 6 (d := dd__with_heights) rfl
  have m6 := He.glo_ok X G (c.fact 6 (f := .glo "_with_heights") rfl)
  obtain ⟨fd7, F7⟩ := c.def_ 7 (d := dd__gap_between) rfl
  have m7 := He.glo_ok X G (c.fact 7 (f := .glo "_gap_between") rfl)
  obtain ⟨fd8, F8⟩ := c.def_ 8 (d := dd__law_source) rfl
  have m8 := He.glo_ok X G (c.fact 8 (f := .glo "_law_source") rfl)
  obtain ⟨fd9, F9⟩ := c.def_ 9 (d := dd__law_next) rfl
  have m9 := He.glo_ok X G (c.fact 9 (f := .glo "_law_next") rfl)
  obtain ⟨fd10, F10⟩ := c.def_ 10 (d := dd__law_all) rfl
  have m10 := He.glo_ok X G (c.fact 10 (f := .glo "_law_all") rfl)
  obtain ⟨fd11, F11⟩ := c.def_ 11 (d := dd__law_behind) rfl
  have m11 := He.glo_ok X G (c.fact 11 (f := .glo "_law_behind") rfl)
  obtain ⟨fd12, F12⟩ := c.def_ 12 (d := dd__law_ahead) rfl
  have m12 := He.glo_ok X G (c.fact 12 (f := .glo "_law_ahead") rfl)
  obtain ⟨fd13, F13⟩ := c.def_ 13 (d := dd_check_number) rfl
  have m13 := He.glo_ok X G (c.fact 13 (f := .glo "check_number") rfl)
  obtain ⟨fd14, F14⟩ := c.def_ 14 (d := dd_check_key) rfl
  have m14 := He.glo_ok X G (c.fact 14 (f := .glo "check_key") rfl)
  obtain ⟨fd15, F15⟩ := c.def_ 15 (d := dd__is_pair) rfl
  have m15 := He.glo_ok X G (c.fact 15 (f := .glo "_is_pair") rfl)
  obtain ⟨fd16, F16⟩ := c.def_ 16 (d := dd_has_key) rfl
  have m16 := He.glo_ok X G (c.fact 16 (f := .glo "has_key") rfl)
  obtain ⟨fd17, F17⟩ := c.def_ 17 (d := dd_without_key) rfl
  have m17 := He.glo_ok X G (c.fact 17 (f := .glo "without_key") rfl)
  obtain ⟨fd18, F18⟩ := c.def_ 18 (d := dd__is_gapped) rfl
  have m18 := He.glo_ok X G (c.fact 18 (f := .glo "_is_gapped") rfl)
  obtain ⟨fd19, F19⟩ := c.def_ 19 (d := dd__lower_behind) rfl
  have m19 := He.glo_ok X G (c.fact 19 (f := .glo "_lower_behind") rfl)
  obtain ⟨fd20, F20⟩ := c.def_ 20 (d := dd__lower_ahead) rfl
  have m20 := He.glo_ok X G (c.fact 20 (f := .glo "_lower_ahead") rfl)
  obtain ⟨fd21, F21⟩ := c.def_ 21 (d := dd_wrong_tower) rfl
  have m21 := He.glo_ok X G (c.fact 21 (f := .glo "wrong_tower") rfl)
  obtain ⟨fd22, F22⟩ := c.def_ 22 (d := dd__check_bounds) rfl
  have m22 := He.glo_ok X G (c.fact 22 (f := .glo "_check_bounds") rfl)
  obtain ⟨fd23, F23⟩ := c.def_ 23 (d := dd__fill_gap) rfl
  have m23 := He.glo_ok X G (c.fact 23 (f := .glo "_fill_gap") rfl)
  obtain ⟨fd24, F24⟩ := c.def_ 24 (d := dd_check_towers) rfl
  have m24 := He.glo_ok X G (c.fact 24 (f := .glo "check_towers") rfl)
  obtain ⟨fd25, F25⟩ := c.def_ 25 (d := dd_is_gapped) rfl
  have m25 := He.glo_ok X G (c.fact 25 (f := .glo "is_gapped") rfl)
  obtain ⟨fd26, F26⟩ := c.def_ 26 (d := dd__check_gaps) rfl
  have m26 := He.glo_ok X G (c.fact 26 (f := .glo "_check_gaps") rfl)
  obtain ⟨fd27, F27⟩ := c.def_ 27 (d := dd__law_node) rfl
  have m27 := He.glo_ok X G (c.fact 27 (f := .glo "_law_node") rfl)
  obtain ⟨fd28, F28⟩ := c.def_ 28 (d := dd__law_rows) rfl
  have m28 := He.glo_ok X G (c.fact 28 (f := .glo "_law_rows") rfl)
  obtain ⟨fd29, F29⟩ := c.def_ 29 (d := dd__law_last) rfl
  have m29 := He.glo_ok X G (c.fact 29 (f := .glo "_law_last") rfl)
  obtain ⟨fd30, F30⟩ := c.def_ 30 (d := dd_out_gapped) rfl
  have m30 := He.glo_ok X G (c.fact 30 (f := .glo "out_gapped") rfl)
  obtain ⟨fd31, F31⟩ := c.def_ 31 (d := dd__law_woven) rfl
  have m31 := He.glo_ok X G (c.fact 31 (f := .glo "_law_woven") rfl)
  obtain ⟨fd32, F32⟩ := c.def_ 32 (d := dd__law_taken) rfl
  have m32 := He.glo_ok X G (c.fact 32 (f := .glo "_law_taken") rfl)
  obtain ⟨fd33, F33⟩ := c.def_ 33 (d := dd__law_due) rfl
  have m33 := He.glo_ok X G (c.fact 33 (f := .glo "_law_due") rfl)
  obtain ⟨fd34, F34⟩ := c.def_ 34 (d := dd__law_is_right) rfl
  have m34 := He.glo_ok X G (c.fact 34 (f := .glo "_law_is_right") rfl)
  obtain ⟨fd35, F35⟩ := c.def_ 35 (d := dd_law) rfl
  have e := hfa.symm.trans (He.glo_ok X G (c.fact 35 (f := .glo "law") rfl))
  cases e
  have bl : Bm mg := ⟨He.free_ok X G (c.fact 36 (f := .free "int") rfl), He.free_ok X G (c.fact 37 (f := .free "bool") rfl), He.free_ok X G (c.fact 38 (f := .free "str") rfl), He.free_ok X G (c.fact 39 (f := .free "list") rfl), He.free_ok X G (c.fact 40 (f := .free "tuple") rfl), He.free_ok X G (c.fact 41 (f := .free "dict") rfl), He.free_ok X G (c.fact 42 (f := .free "set") rfl), He.free_ok X G (c.fact 43 (f := .free "len") rfl), He.free_ok X G (c.fact 44 (f := .free "max") rfl), He.free_ok X G (c.fact 45 (f := .free "min") rfl), He.free_ok X G (c.fact 46 (f := .free "abs") rfl), He.free_ok X G (c.fact 47 (f := .free "sum") rfl), He.free_ok X G (c.fact 48 (f := .free "all") rfl), He.free_ok X G (c.fact 49 (f := .free "any") rfl), He.free_ok X G (c.fact 50 (f := .free "repr") rfl), He.free_ok X G (c.fact 51 (f := .free "sorted") rfl), He.free_ok X G (c.fact 52 (f := .free "zip") rfl), He.free_ok X G (c.fact 53 (f := .free "isinstance") rfl), He.free_ok X G (c.fact 54 (f := .free "enumerate") rfl), He.free_ok X G (c.fact 55 (f := .free "reversed") rfl), He.free_ok X G (c.fact 56 (f := .free "range") rfl)⟩
  have b := FunD.bindsA (ps := ["_law_script"]) F35 fun _ _ _ _ _ _ us hl => match us, hl with | [_], _ => rfl
  refine ⟨fd35, fun s v => b s [v] rfl, fun base _ _ => ?_⟩
  obtain ⟨t_GREATEST_BOUND, g_GREATEST_BOUND⟩ := He.int_ok X G (c.fact 57 (f := .int "GREATEST_BOUND" 20) rfl)
  have r_GREATEST_BOUND : RelV (.int 20) (Value.int 20 t_GREATEST_BOUND) := ⟨t_GREATEST_BOUND, rfl⟩
  obtain ⟨t_GREATEST_GAP, g_GREATEST_GAP⟩ := He.int_ok X G (c.fact 58 (f := .int "GREATEST_GAP" 3) rfl)
  have r_GREATEST_GAP : RelV (.int 3) (Value.int 3 t_GREATEST_GAP) := ⟨t_GREATEST_GAP, rfl⟩
  obtain ⟨t_LEAST_GAP, g_LEAST_GAP⟩ := He.int_ok X G (c.fact 59 (f := .int "LEAST_GAP" 1) rfl)
  have r_LEAST_GAP : RelV (.int 1) (Value.int 1 t_LEAST_GAP) := ⟨t_LEAST_GAP, rfl⟩
  have A0 := H_is_whole (P := P) (w := w) (base := base) (CX := CX0) bl noX0 F0 m0
  have A1 := H_is_row (P := P) (w := w) (base := base) (CX := CX0) bl noX0 F1 m1
  have A2 := H_tallest (P := P) (w := w) (base := base) (CX := CX0) bl noX0 F2 m2
  have A3 := H_as_tuples (P := P) (w := w) (base := base) (CX := CX0) bl noX0 F3 m3
  have A4 := H_count_below (P := P) (w := w) (base := base) (CX := CX0) bl noX0 F4 m4
  have A5 := H__gaps (P := P) (w := w) (base := base) (CX := CX0) bl noX0 F5 m5
  have A6 := H__with_heights (P := P) (w := w) (base := base) (CX := CX0) bl noX0 F6 m6
  have A7 := H__gap_between (P := P) (w := w) (base := base) (CX := CX0) bl noX0 F7 m7
  have A8 := H__law_source (P := P) (w := w) (base := base) (CX := CX0) bl noX0 F8 m8
  have A9 := H__law_next (P := P) (w := w) (base := base) (CX := CX0) bl noX0 F9 m9
  have A10 := H__law_all (P := P) (w := w) (base := base) (CX := CX0) bl noX0 F10 m10
  have A11 := H__law_behind (P := P) (w := w) (base := base) (CX := CX0) bl noX0 F11 m11
  have A12 := H__law_ahead (P := P) (w := w) (base := base) (CX := CX0) bl noX0 F12 m12
  have A13 := H_check_number (P := P) (w := w) (base := base) (CX := CX0) bl noX0 A0 F13 m13
  have A13f := H_check_number_full (P := P) (w := w) (base := base) (CX := CX0) bl noX0 A0 F13 m13
  have A14 := H_check_key (P := P) (w := w) (base := base) (CX := CX0) bl noX0 A0 F14 m14
  have A15 := H__is_pair (P := P) (w := w) (base := base) (CX := CX0) bl noX0 A1 A0 F15 m15
  have A16 := H_has_key (P := P) (w := w) (base := base) (CX := CX0) bl noX0 A4 F16 m16
  have A17 := H_without_key (P := P) (w := w) (base := base) (CX := CX0) bl noX0 A4 A3 F17 m17
  have A18 := H__is_gapped (P := P) (w := w) (base := base) (CX := CX0) bl noX0 A2 A5 F18 m18
  have A19 := H__lower_behind (P := P) (w := w) (base := base) (CX := CX0) bl noX0 A7 F19 m19
  have A20 := H__lower_ahead (P := P) (w := w) (base := base) (CX := CX0) bl noX0 A7 F20 m20
  have A21 := H_wrong_tower (P := P) (w := w) (base := base) (CX := CX0) bl noX0 A1 A15 F21 m21
  have A22 := H__check_bounds (P := P) (w := w) (base := base) (CX := CX0) bl noX0 A13f g_GREATEST_BOUND r_GREATEST_BOUND F22 m22
  have A23 := H__fill_gap (P := P) (w := w) (base := base) (CX := CX0) bl noX0 A7 A20 A19 F23 m23
  have A24 := H_check_towers (P := P) (w := w) (base := base) (CX := CX0) bl noX0 A21 F24 m24
  have A25 := H_is_gapped (P := P) (w := w) (base := base) (CX := CX0) bl noX0 A24 A22 A18 F25 m25
  have A26 := H__check_gaps (P := P) (w := w) (base := base) (CX := CX0) bl noX0 A24 A18 g_GREATEST_GAP r_GREATEST_GAP g_LEAST_GAP r_LEAST_GAP F26 m26
  have A27 := H__law_node (P := P) (w := w) (base := base) (CX := CX0) bl noX0 F27 m27
  have A28 := H__law_rows (P := P) (w := w) (base := base) (CX := CX0) bl noX0 F28 m28
  have A29 := H__law_last (P := P) (w := w) (base := base) (CX := CX0) bl noX0 F29 m29
  have A30 := H_out_gapped (P := P) (w := w) (base := base) (CX := CX0) bl noX0 A26 A14 A16 A4 A17 A6 A23 F30 m30
  have A31 := H__law_woven (P := P) (w := w) (base := base) (CX := CX0) bl noX0 A9 F31 m31
  have A32 := H__law_taken (P := P) (w := w) (base := base) (CX := CX0) bl noX0 A29 A11 A12 F32 m32
  have A33 := H__law_due (P := P) (w := w) (base := base) (CX := CX0) bl noX0 A32 A27 A28 F33 m33
  have A34 := H__law_is_right (P := P) (w := w) (base := base) (CX := CX0) bl noX0 A30 A25 A33 F34 m34
  exact H_law law_true bl noX0 A30 A10 A34 A8 A31 A9 F35
end Tk
open PySem PySem.W PySem.Calls PyProof.Rows
theorem PySem.Challenge.cw_tosslanes_k67_whole_keys_taken_out_holds : PySem.Challenge.rw_tosslanes_k67_whole_keys_taken_out.Holds := by
  w_on; o_law
  refine HandSHeadRun.head_any (r := OpenLaw.row PySem.Challenge.rw_tosslanes_k67_whole_keys_taken_out) (q := view (OpenLaw.row PySem.Challenge.rw_tosslanes_k67_whole_keys_taken_out).prog [50]) (H := Tk.hkD) (ob := Tk.obD) (M := 8000) (loose := Tk.namesD) (d := HandSHeadRun.topDef (OpenLaw.row PySem.Challenge.rw_tosslanes_k67_whole_keys_taken_out).prog 50) (kwd := []) Tk.obD_eq
    (by kernel_rfl) (fun s => by kernel_rfl) Tk.runD (by kernel_rfl) (by kernel_rfl) (by kernel_rfl) (by rfl) (by first | assumption | decide +kernel) (by decide +kernel) ⟨rfl, rfl, rfl, rfl, rfl, by decide +kernel⟩ ?hw ?hc
  case hw => w_witness2
  case hc =>
    refine L2.walk_ofE (l := PySem.Challenge.rw_tosslanes_k67_whole_keys_taken_out) (n := 63) (k := 13) (x := "_law_script") (CX := L2.CX0) rfl (by decide) (by kernel_rfl) ⟨rfl, by decide, by decide⟩ ?F (fun _ _ _ _ z => z)
    intro w mg fa h Y G hmg0
    obtain ⟨K, KX, c⟩ := Y
    have hmg : mg ("law" : PySem.Str) = some (.ref fa) := by
      have e : (HandSHeadRun.topDef (OpenLaw.row PySem.Challenge.rw_tosslanes_k67_whole_keys_taken_out).prog 50).name = ("law" : PySem.Str) := by kernel_rfl
      rw [← e]
      exact hmg0
    obtain ⟨fd, hb, hF⟩ := Tk.factsD (P := (PySem.Challenge.rw_tosslanes_k67_whole_keys_taken_out).prog) (w := w) KX G hmg c
    exact ⟨K, fd, Fd.spLaw K, KX, hb, fun H a ns hl _ hS => ⟨a, ns, rfl, hS, hl, fun _ => rfl⟩, hF⟩
end
